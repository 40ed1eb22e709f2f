import PyProof.Rows.All
import Wide.All
import OpenK.AllK
import Wide.FinOn
import HandS.ForMost
import HandS.ForExc
import HandS.IsInst
import HandS.Zip
import HandS.Gcd
import HandS.Wide
import KE.SortData
import HandS.ExcIs
import HandS.Lambda
import HandS.EndTab
import HandS.Flt
import HandS.ExcField
import HandS.ExcInit
import KE.KExcIs
import HandS.TupAny
import HandS.TupLe
import HandS.Iter
import HandS.Deep
import HandS.OwnEq
import HandS.SlotsOwn
import KE.DataFind
import KE.GoesZip
import KE.GoesMore
import HandS.Conv
import HandS.Star
import HandS.SetFor
import HandS.TupMul
import HandS.Style
import HandS.SetKeys
import HandS.WordsDict
import KE.DataMinMax
import PySem.Challenge.RW_twotides_k86_clashes_judged
set_option Elab.async false
set_option linter.all false
set_option maxRecDepth 100000
set_option maxHeartbeats 4000000
namespace L3
open PySem PySem.Spec PyProof.Rows L2

/-! ## data -/
inductive D where
  | non | bl (b : Bool) | int (i : Int) | str (x : Str) | tup (ds : List D) | lst (ds : List D) | fl (ds : List D) | ty (n : String) | oth (t : Value) | ins (C : Addr) (fs : List (Str × D)) | adr (q : Addr) | dc (kvs : List (Key × D)) | dtc (kvs : List (List Key × D))

mutual
inductive Rep (K : PySem.W.Frag) (F : Hp) : V → D → Prop
  | non : Rep K F .non .non
  | bl (b : Bool) : Rep K F (.bl b) (.bl b)
  | int (i : Int) : Rep K F (.int i) (.int i)
  | str (x : Str) : Rep K F (.str x) (.str x)
  | tup {a : Addr} {xs : List V} {ds : List D} : SqT K F a xs → Reps K F xs ds → Rep K F (.ref a) (.tup ds)
  | lst {a : Addr} {xs : List V} {ds : List D} : F a = some (.lst xs) → Reps K F xs ds → Rep K F (.ref a) (.lst ds)
  | fl {a : Addr} {xs : List V} {ds : List D} : SqL K F a xs → Reps K F xs ds → Rep K F (.ref a) (.fl ds)
  | ty (n : String) : Rep K F (.ty n) (.ty n)
  | oth {a : Addr} {t : Value} : TyX K F (.ref a) t → Rep K F (.ref a) (.oth t)
  | ins {a C dx : Addr} {fs : List (Str × V)} {ds : List (Str × D)} : F a = some (.ins C dx fs) → FRep K F fs ds → Rep K F (.ref a) (.ins C ds)
  | adr (q : Addr) : Rep K F (.ref q) (.adr q)
  | dc {a : Addr} {od : Obj} {vs : List (Key × V)} {ds : List (Key × D)} : F a = some (.frz od (.dK vs)) → KRep K F vs ds → Rep K F (.ref a) (.dc ds)
  | dtc {a : Addr} {od : Obj} {vs : List (List Key × V)} {ds : List (List Key × D)} : F a = some (.frz od (.dT vs)) → TRep K F vs ds → Rep K F (.ref a) (.dtc ds)
inductive Reps (K : PySem.W.Frag) (F : Hp) : List V → List D → Prop
  | nil : Reps K F [] []
  | cons {v : V} {vs : List V} {d : D} {ds : List D} : Rep K F v d → Reps K F vs ds → Reps K F (v :: vs) (d :: ds)
inductive FRep (K : PySem.W.Frag) (F : Hp) : List (Str × V) → List (Str × D) → Prop
  | nil : FRep K F [] []
  | cons {f : Str} {v : V} {d : D} {vs : List (Str × V)} {ds : List (Str × D)} : Rep K F v d → FRep K F vs ds → FRep K F ((f, v) :: vs) ((f, d) :: ds)
inductive KRep (K : PySem.W.Frag) (F : Hp) : List (Key × V) → List (Key × D) → Prop
  | nil : KRep K F [] []
  | cons {k : Key} {v : V} {d : D} {vs : List (Key × V)} {ds : List (Key × D)} : Rep K F v d → KRep K F vs ds → KRep K F ((k, v) :: vs) ((k, d) :: ds)
inductive TRep (K : PySem.W.Frag) (F : Hp) : List (List Key × V) → List (List Key × D) → Prop
  | nil : TRep K F [] []
  | cons {k : List Key} {v : V} {d : D} {vs : List (List Key × V)} {ds : List (List Key × D)} : Rep K F v d → TRep K F vs ds → TRep K F ((k, v) :: vs) ((k, d) :: ds)
end

theorem SqT_mono {K : PySem.W.Frag} {F F' : Hp} {a : Addr} {xs : List V} (s : Same F F') (h : SqT K F a xs) : SqT K F' a xs := by
  rcases h with (h | ⟨o, h⟩) | h
  · exact .inl (.inl (s _ _ h))
  · exact .inl (.inr ⟨o, s _ _ h⟩)
  · exact .inr h
theorem TyX_mono {K : PySem.W.Frag} {F F' : Hp} {v : V} {t : Value} (s : Same F F') (h : TyX K F v t) : TyX K F' v t := by
  cases h with
  | base h =>
    refine .base ?_
    cases h with
    | non => exact .non
    | bl x => exact .bl x
    | int x => exact .int x
    | str x => exact .str x
    | flt x => exact .flt x
    | lst e => exact .lst (s _ _ e)
    | frz e => exact .frz (s _ _ e)
    | tup e => exact .tup (s _ _ e)
    | dK e => exact .dK (s _ _ e)
    | dT e => exact .dT (s _ _ e)
    | ins e cl ha hn ht hm => exact .ins (s _ _ e) cl ha hn ht hm
  | byt b => exact .byt b
  | set e => exact .set (s _ _ e)
  | kList e c => exact .kList e c
  | kTuple e c => exact .kTuple e c
  | kDict e c => exact .kDict e c
  | fTuple e => exact .fTuple (s _ _ e)
  | fDict e => exact .fDict (s _ _ e)
mutual
theorem Rep.mono {K : PySem.W.Frag} {F F' : Hp} (s : Same F F') : ∀ {v : V} {d : D}, Rep K F v d → Rep K F' v d
  | _, _, .non => .non
  | _, _, .bl b => .bl b
  | _, _, .int i => .int i
  | _, _, .str x => .str x
  | _, _, .tup h r => .tup (SqT_mono s h) (Reps.mono s r)
  | _, _, .lst h r => .lst (s _ _ h) (Reps.mono s r)
  | _, _, .fl h r => .fl (s.seq h) (Reps.mono s r)
  | _, _, .ty n => .ty n
  | _, _, .oth h => .oth (TyX_mono s h)
  | _, _, .ins h r => .ins (s _ _ h) (FRep.mono s r)
  | _, _, .adr q => .adr q
  | _, _, .dc h r => .dc (s _ _ h) (KRep.mono s r)
  | _, _, .dtc h r => .dtc (s _ _ h) (TRep.mono s r)
theorem Reps.mono {K : PySem.W.Frag} {F F' : Hp} (s : Same F F') : ∀ {vs : List V} {ds : List D}, Reps K F vs ds → Reps K F' vs ds
  | _, _, .nil => .nil
  | _, _, .cons h r => .cons (Rep.mono s h) (Reps.mono s r)
theorem FRep.mono {K : PySem.W.Frag} {F F' : Hp} (s : Same F F') : ∀ {vs : List (Str × V)} {ds : List (Str × D)}, FRep K F vs ds → FRep K F' vs ds
  | _, _, .nil => .nil
  | _, _, .cons h r => .cons (Rep.mono s h) (FRep.mono s r)
theorem KRep.mono {K : PySem.W.Frag} {F F' : Hp} (s : Same F F') : ∀ {vs : List (Key × V)} {ds : List (Key × D)}, KRep K F vs ds → KRep K F' vs ds
  | _, _, .nil => .nil
  | _, _, .cons h r => .cons (Rep.mono s h) (KRep.mono s r)
theorem TRep.mono {K : PySem.W.Frag} {F F' : Hp} (s : Same F F') : ∀ {vs : List (List Key × V)} {ds : List (List Key × D)}, TRep K F vs ds → TRep K F' vs ds
  | _, _, .nil => .nil
  | _, _, .cons h r => .cons (Rep.mono s h) (TRep.mono s r)
end
theorem Reps.length {K : PySem.W.Frag} {F : Hp} : ∀ {vs : List V} {ds : List D}, Reps K F vs ds → vs.length = ds.length
  | _, _, .nil => rfl
  | _, _, .cons _ r => by rw [List.length_cons, List.length_cons, Reps.length r]
theorem Reps.get {K : PySem.W.Frag} {F : Hp} : ∀ {vs : List V} {ds : List D} {i : Nat} {v : V}, Reps K F vs ds → vs[i]? = some v → ∃ d, ds[i]? = some d ∧ Rep K F v d
  | _, _, _, _, .nil, e => by simp at e
  | _, _, 0, _, .cons r _, e => by simp at e; subst e; exact ⟨_, rfl, r⟩
  | _, _, i + 1, x, .cons _ t, e => by
    obtain ⟨u, h1, h2⟩ := Reps.get (i := i) (v := x) t (by simpa using e)
    exact ⟨u, by simpa using h1, h2⟩
theorem Reps.getD {K : PySem.W.Frag} {F : Hp} : ∀ {vs : List V} {ds : List D} {i : Nat} {d : D}, Reps K F vs ds → ds[i]? = some d → ∃ v, vs[i]? = some v ∧ Rep K F v d
  | _, _, _, _, .nil, e => by simp at e
  | _, _, 0, _, .cons r _, e => by simp at e; subst e; exact ⟨_, rfl, r⟩
  | _, _, i + 1, x, .cons _ t, e => by
    obtain ⟨u, h1, h2⟩ := Reps.getD (i := i) (d := x) t (by simpa using e)
    exact ⟨u, by simpa using h1, h2⟩
theorem Reps.append {K : PySem.W.Frag} {F : Hp} : ∀ {vs ws : List V} {ds es : List D}, Reps K F vs ds → Reps K F ws es → Reps K F (vs ++ ws) (ds ++ es)
  | _, _, _, _, .nil, r => r
  | _, _, _, _, .cons h t, r => .cons h (Reps.append t r)
theorem Reps.take {K : PySem.W.Frag} {F : Hp} : ∀ {vs : List V} {ds : List D} (n : Nat), Reps K F vs ds → Reps K F (vs.take n) (ds.take n)
  | _, _, 0, _ => .nil
  | _, _, _ + 1, .nil => .nil
  | _, _, n + 1, .cons h t => .cons h (Reps.take n t)
theorem Reps.drop {K : PySem.W.Frag} {F : Hp} : ∀ {vs : List V} {ds : List D} (n : Nat), Reps K F vs ds → Reps K F (vs.drop n) (ds.drop n)
  | _, _, 0, r => r
  | _, _, _ + 1, .nil => .nil
  | _, _, n + 1, .cons h t => Reps.drop n t
theorem Reps.set {K : PySem.W.Frag} {F : Hp} {v : V} {d : D} (h : Rep K F v d) : ∀ {vs : List V} {ds : List D} (n : Nat), Reps K F vs ds → Reps K F (vs.set n v) (ds.set n d)
  | _, _, _, .nil => .nil
  | _, _, 0, .cons _ t => .cons h t
  | _, _, n + 1, .cons g t => .cons g (Reps.set h n t)
theorem Reps.ints {K : PySem.W.Frag} {F : Hp} : ∀ {ns : List Int}, Reps K F (ns.map V.int) (ns.map D.int)
  | [] => .nil
  | n :: ns => .cons (.int n) (Reps.ints (ns := ns))
theorem Reps.bls {K : PySem.W.Frag} {F : Hp} : ∀ {bs : List Bool} {vs : List V}, Reps K F vs (bs.map D.bl) → vs = bs.map V.bl
  | [], _, .nil => rfl
  | b :: bs, _, .cons h t => by
    cases h
    show _ :: _ = _ :: _
    rw [Reps.bls t]
/-- the type of a thing -/
def tyD : D → Value
  | .non => .type "NoneType" | .bl _ => .type "bool" | .int _ => .type "int" | .str _ => .type "str" | .tup _ => .type "tuple" | .lst _ => .type "list" | .fl _ => .type "list" | .ty _ => .type "type" | .oth t => t | .ins C _ => .ref C | .adr _ => .type "list" | .dc _ => .type "dict" | .dtc _ => .type "dict"
def noTy : D → Prop | .ty _ => False | .ins _ _ => False | .adr _ => False | .dc _ => False | .dtc _ => False | _ => True
theorem Rep.tyX {K : PySem.W.Frag} {F : Hp} {v : V} {d : D} (h : Rep K F v d) (n : noTy d) : TyX K F v (tyD d) := by
  cases h with
  | non => exact .base .non
  | bl b => exact .base (.bl b)
  | int i => exact .base (.int i)
  | str x => exact .base (.str x)
  | tup h _ =>
    rcases h with (h | ⟨o, h⟩) | ⟨o, its, n, h, c, _⟩
    · exact .base (.tup h)
    · exact .fTuple h
    · exact .kTuple h c
  | lst h _ => exact .base (.lst h)
  | fl h _ =>
    rcases h with (h | ⟨o, h⟩) | ⟨o, its, n, h, c, _⟩
    · exact .base (.lst h)
    · exact .base (.frz h)
    · exact .kList h c
  | ty n => exact n.elim
  | oth h => exact h
  | ins _ _ => exact n.elim
  | adr _ => exact n.elim
  | dc _ _ => exact n.elim
  | dtc _ _ => exact n.elim

/-! ## the state -/
inductive Cont where
  | lst (ds : List D) | obj (C dx : Addr) (fs : List (Str × D)) | pool (a b : Int) (q : Addr) (ns : List Int) | dl (kvs : List (Key × Addr × List Int)) | dk (kvs : List (Key × D)) | dt (kvs : List (List Key × D)) | st (S : Int → Bool) (n : Nat)
inductive Cell where
  | any | dat (d : D) | own (p : Addr) (c : Cont)
/-- no table of code objects -/
def NT (o : HO) : Prop := ∀ ps, o ≠ .tbl ps
theorem nt_lst {xs : List V} : NT (.lst xs) := fun ps z => by cases z
theorem nt_ins {C dx : Addr} {fs : List (Str × V)} : NT (.ins C dx fs) := fun ps z => by cases z
inductive CRep (K : PySem.W.Frag) (F : Hp) : HO → Cont → Prop
  | lst {vs : List V} {ds : List D} : Reps K F vs ds → CRep K F (.lst vs) (.lst ds)
  | obj {C dx : Addr} {vs : List (Str × V)} {ds : List (Str × D)} : FRep K F vs ds → CRep K F (.ins C dx vs) (.obj C dx ds)
  | pool {a b : Int} {q : Addr} {ns : List Int} : CRep K F (.lst [.int a, .int b, .ref q]) (.pool a b q ns)
  | dl {kvs : List (Key × Addr × List Int)} : CRep K F (.dK (kvs.map fun x => (x.1, V.ref x.2.1))) (.dl kvs)
  | dk {vs : List (Key × V)} {ds : List (Key × D)} : KRep K F vs ds → CRep K F (.dK vs) (.dk ds)
  | dt {vs : List (List Key × V)} {ds : List (List Key × D)} : TRep K F vs ds → CRep K F (.dT vs) (.dt ds)
  | st {S : Int → Bool} {n : Nat} : CRep K F (.set S n) (.st S n)
theorem CRep.mono {K : PySem.W.Frag} {F F' : Hp} {o : HO} {c : Cont} (s : Same F F') (h : CRep K F o c) : CRep K F' o c := by
  cases h with
  | lst r => exact .lst (r.mono s)
  | obj r => exact .obj (r.mono s)
  | pool => exact .pool
  | dl => exact .dl
  | dk r => exact .dk (r.mono s)
  | dt r => exact .dt (r.mono s)
  | st => exact .st
theorem CRep.nt {K : PySem.W.Frag} {F : Hp} {o : HO} {c : Cont} (h : CRep K F o c) : NT o := by
  cases h with
  | lst r => exact nt_lst
  | obj r => exact nt_ins
  | pool => exact nt_lst
  | dl => exact fun ps z => by cases z
  | dk r => exact fun ps z => by cases z
  | dt r => exact fun ps z => by cases z
  | st => exact fun ps z => by cases z
/-- what else belongs to an own thing -/
def Foot : Cont → Addr → Prop
  | .pool _ _ q _, a => a = q
  | .dl kvs, a => ∃ x ∈ kvs, a = x.2.1
  | _, _ => False
/-- the addresses that a cell has for its own -/
def Has : Cell → Addr → Prop
  | .own p k, a => a = p ∨ Foot k a
  | _, _ => False
def SubOk (F H : Hp) (p : Addr) : Cont → Prop
  | .pool _ _ q ns => q ≠ p ∧ F q = none ∧ H q = some (.lst (ns.map V.int))
  | .dl kvs => (kvs.map fun x => x.2.1).Nodup ∧ ∀ x ∈ kvs, x.2.1 ≠ p ∧ F x.2.1 = none ∧ H x.2.1 = some (.lst (x.2.2.map V.int))
  | _ => True
def Flat : Cont → Prop
  | .pool _ _ _ _ => False
  | .dl _ => False
  | _ => True
theorem Flat.no {k : Cont} (f : Flat k) {a : Addr} : ¬ Foot k a := by
  cases k with
  | lst ds => exact id
  | obj C dx fs => exact id
  | pool a b q ns => exact f.elim
  | dl kvs => exact f.elim
  | dk kvs => exact id
  | dt kvs => exact id
  | st S n => exact id
theorem Flat.sub {k : Cont} (f : Flat k) {F H : Hp} {p : Addr} : SubOk F H p k := by
  cases k with
  | lst ds => exact trivial
  | obj C dx fs => exact trivial
  | pool a b q ns => exact f.elim
  | dl kvs => exact f.elim
  | dk kvs => exact trivial
  | dt kvs => exact trivial
  | st S n => exact trivial
def CellOk (K : PySem.W.Frag) (F H : Hp) : Cell → Prop
  | .own p k => F p = none ∧ ∃ vs, H p = some vs ∧ CRep K F vs k ∧ SubOk F H p k
  | _ => True
theorem CellOk.has {K : PySem.W.Frag} {F H : Hp} {c : Cell} {a : Addr} (h : CellOk K F H c) (f : Has c a) : F a = none ∧ ∃ u, H a = some u ∧ NT u := by
  cases c with
  | any => exact f.elim
  | dat d => exact f.elim
  | own p k =>
    obtain ⟨h1, vs, h2, h3, h4⟩ := h
    rcases f with rfl | f
    · exact ⟨h1, vs, h2, h3.nt⟩
    · cases k with
      | lst ds => exact f.elim
      | obj C dx fs => exact f.elim
      | pool x y q ns =>
        have f : a = q := f
        subst f
        exact ⟨h4.2.1, _, h4.2.2, nt_lst⟩
      | dl kvs =>
        obtain ⟨x, hx, rfl⟩ := f
        obtain ⟨_, h5, h6⟩ := h4.2 x hx
        exact ⟨h5, _, h6, nt_lst⟩
      | dk kvs => exact f.elim
      | dt kvs => exact f.elim
      | st S n => exact f.elim
theorem CellOk.move {K : PySem.W.Frag} {F H F' H' : Hp} {c : Cell} (h : CellOk K F H c) (s : Same F F') (m : ∀ a, Has c a → F' a = none ∧ ∀ u, H a = some u → NT u → H' a = some u) : CellOk K F' H' c := by
  cases c with
  | any => exact trivial
  | dat d => exact trivial
  | own p k =>
    obtain ⟨h1, vs, h2, h3, h4⟩ := h
    refine ⟨(m p (.inl rfl)).1, vs, (m p (.inl rfl)).2 _ h2 h3.nt, h3.mono s, ?_⟩
    cases k with
    | lst ds => exact trivial
    | obj C dx fs => exact trivial
    | pool x y q ns => exact ⟨h4.1, (m q (.inr rfl)).1, (m q (.inr rfl)).2 _ h4.2.2 nt_lst⟩
    | dl kvs => exact ⟨h4.1, fun x hx => ⟨(h4.2 x hx).1, (m x.2.1 (.inr ⟨x, hx, rfl⟩)).1, (m x.2.1 (.inr ⟨x, hx, rfl⟩)).2 _ (h4.2 x hx).2.2 nt_lst⟩⟩
    | dk kvs => exact trivial
    | dt kvs => exact trivial
    | st S n => exact trivial
theorem CellOk.flat {K : PySem.W.Frag} {F H : Hp} {p : Addr} {k : Cont} {vs : HO} (fl : Flat k) (h1 : F p = none) (h2 : H p = some vs) (h3 : CRep K F vs k) : CellOk K F H (.own p k) := ⟨h1, vs, h2, h3, fl.sub⟩

/-- a mutable list that is the frame's own -/
def OwnOk (K : PySem.W.Frag) (F H : Hp) (τ : List Cell) : Prop := ∀ (i : Nat) (c : Cell), τ[i]? = some c → CellOk K F H c
def InjOk (τ : List Cell) : Prop := ∀ (i j : Nat) (c d : Cell) (a : Addr), τ[i]? = some c → τ[j]? = some d → Has c a → Has d a → i = j
def SlotOk (K : PySem.W.Frag) (F : Hp) (s : Option V) : Cell → Prop
  | .any => True
  | .dat d => ∃ v, s = some v ∧ Rep K F v d
  | .own p _ => s = some (.ref p)
/-- the tables of code objects that are in use -/
class TabT where
  T : List (Addr × Str)
variable [TB : TabT]
theorem tabs_upd {T : List (Addr × Str)} {H : Hp} {p : Addr} {o : HO} (h : ∀ u, H p = some u → (∀ ps, u ≠ .tbl ps) ∧ ∀ c q, u ≠ LamX.CodeO c q) (t : LamX.Tabs T H) : LamX.Tabs T (upd H p o) := by
  intro x hx
  obtain ⟨ps, h1, h2, h3⟩ := t x hx
  refine ⟨ps, ?_, h2, fun pos cv e => ?_⟩
  · rw [upd_ne (fun z => by rw [z] at h1; exact (h _ h1).1 ps rfl)]
    exact h1
  · obtain ⟨c, e1, e2⟩ := h3 pos cv e
    refine ⟨c, e1, ?_⟩
    rw [upd_ne (fun z => by rw [z] at e2; exact (h _ e2).2 _ _ rfl)]
    exact e2
theorem tabs_new {T : List (Addr × Str)} {H : Hp} {p : Addr} {o : HO} (h : H p = none) (t : LamX.Tabs T H) : LamX.Tabs T (upd H p o) := tabs_upd (fun u e => by rw [h] at e; cases e) t
theorem tabs_crep {T : List (Addr × Str)} {K : PySem.W.Frag} {F H : Hp} {p : Addr} {o u : HO} {c : Cont} (h : H p = some u) (r : CRep K F u c) (t : LamX.Tabs T H) : LamX.Tabs T (upd H p o) :=
  tabs_upd (fun v e => by
    rw [h] at e
    cases e
    refine ⟨r.nt, fun c q z => ?_⟩
    unfold LamX.CodeO at z
    cases r <;> cases z) t
theorem tabs_lst {T : List (Addr × Str)} {H : Hp} {p : Addr} {o : HO} {xs : List V} (h : H p = some (.lst xs)) : LamX.Tabs T H → LamX.Tabs T (upd H p o) :=
  tabs_upd fun v e => by
    rw [h] at e
    cases e
    exact ⟨fun ps z => (by cases z), fun c q z => (by unfold LamX.CodeO at z; cases z)⟩
theorem tabs_dK {T : List (Addr × Str)} {H : Hp} {p : Addr} {o : HO} {xs : List (Key × V)} (h : H p = some (.dK xs)) : LamX.Tabs T H → LamX.Tabs T (upd H p o) :=
  tabs_upd fun v e => by
    rw [h] at e
    cases e
    exact ⟨fun ps z => (by cases z), fun c q z => (by unfold LamX.CodeO at z; cases z)⟩
/-- the tables stand, and no data is one -/
def Good (F H : Hp) : Prop := LamX.Tabs TB.T H ∧ ∀ a o, F a = some o → NT o
theorem nt_upd {F : Hp} {p : Addr} {o : HO} (nt : NT o) (h : ∀ a u, F a = some u → NT u) : ∀ a u, upd F p o a = some u → NT u := fun a u e => by
  by_cases q : a = p
  · subst q; rw [upd_same] at e; cases e; exact nt
  · rw [upd_ne q] at e; exact h a u e
structure SOk (K : PySem.W.Frag) (F H : Hp) (σ : L2.St) (τ : List Cell) : Prop where
  tabs : Good F H
  sub : Same F H
  len : σ.length = τ.length
  slot : ∀ (i : Nat) (s : Option V) (c : Cell), σ[i]? = some s → τ[i]? = some c → SlotOk K F s c
  own : OwnOk K F H τ
  inj : InjOk τ
def IsOwn (τ : List Cell) (p : Addr) : Prop := ∃ (i : Nat) (c : Cell), τ[i]? = some c ∧ Has c p
theorem isOwn_at {τ : List Cell} {i : Nat} {p : Addr} {k : Cont} (h : τ[i]? = some (.own p k)) : IsOwn τ p := ⟨i, _, h, .inl rfl⟩
theorem OwnOk.has {K : PySem.W.Frag} {F H : Hp} {τ : List Cell} {a : Addr} (o : OwnOk K F H τ) (h : IsOwn τ a) : F a = none ∧ ∃ u, H a = some u ∧ NT u := by
  obtain ⟨i, c, e, f⟩ := h
  exact (o i c e).has f
theorem set_get {τ : List Cell} {i j : Nat} {c d : Cell} (h : (τ.set i c)[j]? = some d) : (j = i ∧ d = c ∧ i < τ.length) ∨ (j ≠ i ∧ τ[j]? = some d) := by
  by_cases e : i = j
  · subst e
    by_cases hl : i < τ.length
    · rw [List.getElem?_set_self hl] at h
      cases h
      exact .inl ⟨rfl, rfl, hl⟩
    · rw [List.getElem?_eq_none (by rw [List.length_set]; exact Nat.le_of_not_lt hl)] at h
      cases h
  · rw [List.getElem?_set_ne e] at h
    exact .inr ⟨fun z => e z.symm, h⟩
theorem isOwn_set {τ : List Cell} {i : Nat} {c : Cell} (hc : ∀ a, ¬ Has c a) {p : Addr} (h : IsOwn (τ.set i c) p) : IsOwn τ p := by
  obtain ⟨j, d, e, f⟩ := h
  rcases set_get e with ⟨_, rfl, _⟩ | ⟨_, e⟩
  · exact absurd f (hc p)
  · exact ⟨j, d, e, f⟩
theorem InjOk.set {τ : List Cell} {i : Nat} {c : Cell} (h : InjOk τ) (hc : ∀ a, Has c a → ∀ j d, j ≠ i → τ[j]? = some d → ¬ Has d a) : InjOk (τ.set i c) := by
  intro j k d e a h1 h2 f1 f2
  rcases set_get h1 with ⟨a1, e1, _⟩ | ⟨n1, g1⟩
  · rcases set_get h2 with ⟨b1, e2, _⟩ | ⟨n2, g2⟩
    · rw [a1, b1]
    · exact absurd f2 (hc a (e1 ▸ f1) k e n2 g2)
  · rcases set_get h2 with ⟨b1, e2, _⟩ | ⟨n2, g2⟩
    · exact absurd f1 (hc a (e2 ▸ f2) j d n1 g1)
    · exact h j k d e a g1 g2 f1 f2
/-- nothing is there, or a table -/
def Fr (H : Hp) (a : Addr) : Prop := ∀ o, H a = some o → ¬ NT o
theorem fr_none {H : Hp} {a : Addr} (h : H a = none) : Fr H a := fun o e => by rw [h] at e; cases e
theorem fr_ne {H : Hp} {a p : Addr} {o : HO} (e : H a = some o) (nt : NT o) (h : Fr H p) : a ≠ p := fun z => h o (by rw [← z]; exact e) nt
/-- from (F, H) to (F', H'), where what is own may change -/
structure Ext (τ : List Cell) (F H F' H' : Hp) : Prop where
  f : Same F F'
  new : ∀ a o, F' a = some o → F a = some o ∨ Fr H a ∨ IsOwn τ a
  keep : ∀ a o, H a = some o → ¬ IsOwn τ a → NT o → H' a = some o
  there : ∀ a, Fr H' a → Fr H a
  tabs : Good F H → Good F' H'
/-- what is own behind was own ahead, or is new -/
def Grow (τ : List Cell) (H : Hp) (τ' : List Cell) : Prop := ∀ p, IsOwn τ' p → IsOwn τ p ∨ Fr H p
theorem Ext.refl (τ : List Cell) (F H : Hp) : Ext τ F H F H := ⟨Same.refl F, fun _ _ h => .inl h, fun _ _ h _ _ => h, fun _ h => h, id⟩
theorem Grow.refl (τ : List Cell) (H : Hp) : Grow τ H τ := fun _ h => .inl h
theorem Ext.trans {τ τ1 : List Cell} {F H F1 H1 F2 H2 : Hp} (a : Ext τ F H F1 H1) (g : Grow τ H τ1) (b : Ext τ1 F1 H1 F2 H2) : Ext τ F H F2 H2 := by
  refine ⟨a.f.trans b.f, fun x o e => ?_, fun x o e n nt => ?_, fun x h => a.there x (b.there x h), fun t => b.tabs (a.tabs t)⟩
  · rcases b.new x o e with h | h | h
    · exact a.new x o h
    · exact .inr (.inl (a.there x h))
    · rcases g x h with h | h
      · exact .inr (.inr h)
      · exact .inr (.inl h)
  · refine b.keep x o (a.keep x o e n nt) (fun h => ?_) nt
    rcases g x h with h | h
    · exact n h
    · exact h o e nt
theorem Grow.trans {τ τ1 τ2 : List Cell} {F H F1 H1 : Hp} (a : Ext τ F H F1 H1) (g : Grow τ H τ1) (g' : Grow τ1 H1 τ2) : Grow τ H τ2 := fun p h => by
  rcases g' p h with h | h
  · exact g p h
  · exact .inr (a.there p h)
/-- a new frozen object -/
theorem Ext.laid {τ : List Cell} {F H : Hp} {p : Addr} {o : HO} (s : Same F H) (h : H p = none) (nt : NT o) : Ext τ F H (upd F p o) (upd H p o) := by
  refine ⟨fun a u e => ?_, fun a u e => ?_, fun a u e _ _ => ?_, fun a e => ?_, fun g => ⟨tabs_new h g.1, nt_upd nt g.2⟩⟩
  · rw [upd_ne (ne_of_none (s _ _ e) h)]; exact e
  · by_cases q : a = p
    · subst q; exact .inr (.inl (fr_none h))
    · rw [upd_ne q] at e; exact .inl e
  · rw [upd_ne (ne_of_none e h)]; exact e
  · by_cases q : a = p
    · subst q; exact fr_none h
    · exact fun o' e' => e o' (by rw [upd_ne q]; exact e')
/-- a new object that is not tracked as data -/
theorem Ext.laid0 {τ : List Cell} {F H : Hp} {p : Addr} {o : HO} (h : H p = none) : Ext τ F H F (upd H p o) := by
  refine ⟨Same.refl F, fun a u e => .inl e, fun a u e _ _ => ?_, fun a e => ?_, fun g => ⟨tabs_new h g.1, g.2⟩⟩
  · rw [upd_ne (ne_of_none e h)]; exact e
  · by_cases q : a = p
    · subst q; exact fr_none h
    · exact fun o' e' => e o' (by rw [upd_ne q]; exact e')
theorem SlotOk.mono {K : PySem.W.Frag} {F F' : Hp} (s : Same F F') {v : Option V} {c : Cell} (h : SlotOk K F v c) : SlotOk K F' v c := by
  cases c with
  | any => exact trivial
  | dat d => obtain ⟨x, e, r⟩ := h; exact ⟨x, e, r.mono s⟩
  | own p ds => exact h
/-- a step that changes nothing of what is own -/
theorem SOk.ext {K : PySem.W.Frag} {F H F' H' : Hp} {σ : L2.St} {τ : List Cell} (S : SOk K F H σ τ) (e : Ext [] F H F' H') (sub : Same F' H') : SOk K F' H' σ τ := by
  have no : ∀ a, ¬ IsOwn [] a := fun a ⟨i, c, h, _⟩ => by simp at h
  refine ⟨e.tabs S.tabs, sub, S.len, fun i s c h1 h2 => (S.slot i s c h1 h2).mono e.f, fun i c h => (S.own i c h).move e.f fun a f => ?_, S.inj⟩
  obtain ⟨h1, u, h2, h3⟩ := (S.own i c h).has f
  refine ⟨?_, fun o ho nt => e.keep a o ho (no a) nt⟩
  cases q : F' a with
  | none => rfl
  | some o =>
    rcases e.new a o q with z | z | z
    · rw [h1] at z; cases z
    · exact (z _ h2 h3).elim
    · exact absurd z (no a)
theorem Ext.wk {τ : List Cell} {F H F' H' : Hp} (e : Ext [] F H F' H') : Ext τ F H F' H' := by
  have no : ∀ a, ¬ IsOwn [] a := fun a ⟨i, c, h, _⟩ => by simp at h
  refine ⟨e.f, fun a o h => ?_, fun a o h _ nt => e.keep a o h (no a) nt, e.there, e.tabs⟩
  rcases e.new a o h with z | z | z
  · exact .inl z
  · exact .inr (.inl z)
  · exact absurd z (no a)

/-! ## judgements -/
structure Xn where
  cls : Addr
  fs : List (Str × D)
structure XRep (K : PySem.W.Frag) (F H : Hp) (cls : Value) (dx : Option Addr) (x : Xn) : Prop where
  c : cls = .ref x.cls
  f : (x.fs = [] ∧ dx = none) ∨ (x.fs ≠ [] ∧ ∃ a vs, dx = some a ∧ H a = some (.xd vs) ∧ FRep K F vs x.fs)

abbrev EW := List Cell → (D → List Cell → Prop) → (Xn → List Cell → Prop) → Prop
abbrev TW := List Cell → (Bool → List Cell → Prop) → (Xn → List Cell → Prop) → Prop
abbrev AW := List Cell → (List D → List Cell → Prop) → (Xn → List Cell → Prop) → Prop
structure EndsD where
  nx : List Cell → Prop
  rt : D → List Cell → Prop
  rf : Cont → List Cell → Prop := fun _ _ => False
  bk : List Cell → Prop := fun _ => False
  ct : List Cell → Prop := fun _ => False
  ex : Xn → List Cell → Prop := fun _ _ => False
  rg : Cont → List Cell → Prop := fun _ _ => False
abbrev SW := EndsD → List Cell → Prop

/-- where an expression has led -/
structure To (K : PySem.W.Frag) (F H : Hp) (σ : L2.St) (τ : List Cell) (F' H' : Hp) (τ' : List Cell) : Prop where
  ext : Ext τ F H F' H'
  grow : Grow τ H τ'
  ok : SOk K F' H' σ τ'
theorem To.refl {K : PySem.W.Frag} {F H : Hp} {σ : L2.St} {τ : List Cell} (S : SOk K F H σ τ) : To K F H σ τ F H τ := ⟨.refl _ _ _, .refl _ _, S⟩
theorem To.trans {K : PySem.W.Frag} {F H F1 H1 F2 H2 : Hp} {σ σ' : L2.St} {τ τ1 τ2 : List Cell} (a : To K F H σ τ F1 H1 τ1) (b : To K F1 H1 σ' τ1 F2 H2 τ2) : To K F H σ' τ F2 H2 τ2 :=
  ⟨a.ext.trans a.grow b.ext, .trans a.ext a.grow b.grow, b.ok⟩
theorem To.small {K : PySem.W.Frag} {F H F' H' : Hp} {σ : L2.St} {τ : List Cell} (S : SOk K F H σ τ) (e : Ext [] F H F' H') (sub : Same F' H') : To K F H σ τ F' H' τ := ⟨e.wk, .refl _ _, S.ext e sub⟩

def XTo (K : PySem.W.Frag) (W : WX) (F H : Hp) (σ : L2.St) (τ : List Cell) (e : Xn → List Cell → Prop) : Prop :=
  ∀ x cls dx τ' F' H', To K F H σ τ F' H' τ' → XRep K F' H' cls dx x → e x τ' → W cls dx σ H'
theorem XTo.of {K : PySem.W.Frag} {W : WX} {F H F1 H1 : Hp} {σ : L2.St} {τ τ1 : List Cell} {e : Xn → List Cell → Prop} (x : XTo K W F H σ τ e) (t : To K F H σ τ F1 H1 τ1) : XTo K W F1 H1 σ τ1 e :=
  fun y cls dx τ' F' H' u r q => x y cls dx τ' F' H' (t.trans u) r q
structure DE (K : PySem.W.Frag) (W : WX) (t : TE) (w : EW) : Prop where
  run : ∀ σ H τ F Q q e, SOk K F H σ τ → w τ q e → (∀ v d τ' F' H', To K F H σ τ F' H' τ' → Rep K F' v d → q d τ' → Q v H') → XTo K W F H σ τ e → t σ H Q
structure DT (K : PySem.W.Frag) (W : WX) (t : TT) (w : TW) : Prop where
  run : ∀ σ H τ F Q q e, SOk K F H σ τ → w τ q e → (∀ b τ' F' H', To K F H σ τ F' H' τ' → q b τ' → Q b H') → XTo K W F H σ τ e → t σ H Q
structure DA (K : PySem.W.Frag) (W : WX) (t : TA) (w : AW) : Prop where
  run : ∀ σ H τ F Q q e, SOk K F H σ τ → w τ q e → (∀ vs ds τ' F' H', To K F H σ τ F' H' τ' → Reps K F' vs ds → q ds τ' → Q vs H') → XTo K W F H σ τ e → t σ H Q

section
variable {K : PySem.W.Frag} {W : WX}

def wVar (i : Nat) : EW := fun τ q _ => ∃ d, τ[i]? = some (.dat d) ∧ q d τ
theorem de_var (i : Nat) : DE K W (tVar i) (wVar i) := by
  refine ⟨fun σ H τ F Q q e S ⟨d, h, hq⟩ k _ => ?_⟩
  have hi : i < σ.length := by rw [S.len]; exact (List.getElem?_eq_some_iff.mp h).1
  obtain ⟨v, e1, r⟩ := S.slot i σ[i] _ (List.getElem?_eq_getElem hi) h
  exact ⟨v, by rw [List.getElem?_eq_getElem hi, e1], k v d τ F H (.refl S) r hq⟩
def wC (d : D) : EW := fun τ q _ => q d τ
theorem de_c {v : V} {d : D} (h : ∀ F, Rep K F v d) : DE K W (tC v) (wC d) := ⟨fun σ H τ F Q q e S hq k _ => k v d τ F H (.refl S) (h F) hq⟩
theorem de_int {i : Int} : DE K W (tC (.int i)) (wC (.int i)) := de_c fun _ => .int i
theorem de_bl {i : Bool} : DE K W (tC (.bl i)) (wC (.bl i)) := de_c fun _ => .bl i
theorem de_non : DE K W (tC .non) (wC .non) := de_c fun _ => .non
theorem de_str {x : Str} : DE K W (tC (.str x)) (wC (.str x)) := de_c fun _ => .str x

/-- an operation that changes nothing that is there -/
def Op2 (K : PySem.W.Frag) (r : R2) (g : D → D → (D → Prop) → Prop) : Prop :=
  ∀ F H x y d1 d2 (q : D → Prop) Q, Same F H → Rep K F x d1 → Rep K F y d2 → g d1 d2 q → (∀ v d F' H', Ext [] F H F' H' → Same F' H' → Rep K F' v d → q d → Q v H') → r x y H Q
def wOp (g : D → D → (D → Prop) → Prop) (wa wb : EW) : EW := fun τ q e => wa τ (fun d1 τ1 => wb τ1 (fun d2 τ2 => g d1 d2 fun d => q d τ2) e) e
theorem de_op {r : R2} {g : D → D → (D → Prop) → Prop} {ta tb : TE} {wa wb : EW} (o : Op2 K r g) (ha : DE K W ta wa) (hb : DE K W tb wb) : DE K W (tOp r ta tb) (wOp g wa wb) := by
  refine ⟨fun σ H τ F Q q e S h k x => ?_⟩
  refine ha.run σ H τ F _ _ e S h (fun v1 d1 τ1 F1 H1 t1 r1 h1 => ?_) x
  refine hb.run σ H1 τ1 F1 _ _ e t1.ok h1 (fun v2 d2 τ2 F2 H2 t2 r2 h2 => ?_) (x.of t1)
  refine o F2 H2 v1 v2 d1 d2 _ Q t2.ok.sub (r1.mono t2.ext.f) r2 h2 fun v d F3 H3 e3 s3 r3 h3 => ?_
  exact k v d τ2 F3 H3 ((t1.trans t2).trans (.small t2.ok e3 s3)) r3 h3
def g2I (f : Int → Int → D) : D → D → (D → Prop) → Prop := fun x y q => ∃ i j, x = .int i ∧ y = .int j ∧ q (f i j)
def g2IC (C : Int → Int → Prop) (f : Int → Int → D) : D → D → (D → Prop) → Prop := fun x y q => ∃ i j, x = .int i ∧ y = .int j ∧ C i j ∧ q (f i j)
theorem Rep.int_of {F : Hp} {v : V} {i : Int} (h : Rep K F v (.int i)) : v = .int i := by cases h; rfl
theorem Rep.bl_of {F : Hp} {v : V} {i : Bool} (h : Rep K F v (.bl i)) : v = .bl i := by cases h; rfl
theorem op2I {f : Int → Int → V} {g : Int → Int → D} (h : ∀ F i j, Rep K F (f i j) (g i j)) : Op2 K (rI0 f) (g2I g) := by
  rintro F H x y d1 d2 q Q s r1 r2 ⟨i, j, rfl, rfl, hq⟩ k
  exact ⟨i, j, r1.int_of, r2.int_of, k _ _ F H (.refl _ _ _) s (h F i j) hq⟩
theorem op2IC {C : Int → Int → Prop} {f : Int → Int → V} {g : Int → Int → D} (h : ∀ F i j, Rep K F (f i j) (g i j)) : Op2 K (rI C f) (g2IC C g) := by
  rintro F H x y d1 d2 q Q s r1 r2 ⟨i, j, rfl, rfl, hc, hq⟩ k
  exact ⟨i, j, r1.int_of, r2.int_of, hc, k _ _ F H (.refl _ _ _) s (h F i j) hq⟩
theorem o_add : Op2 K (rI0 fun i j => .int (i + j)) (g2I fun i j => .int (i + j)) := op2I fun _ _ _ => .int _
theorem o_sub : Op2 K (rI0 fun i j => .int (i - j)) (g2I fun i j => .int (i - j)) := op2I fun _ _ _ => .int _
theorem o_lt : Op2 K (rI0 fun i j => .bl (decide (i < j))) (g2I fun i j => .bl (decide (i < j))) := op2I fun _ _ _ => .bl _
theorem o_le : Op2 K (rI0 fun i j => .bl (decide (i ≤ j))) (g2I fun i j => .bl (decide (i ≤ j))) := op2I fun _ _ _ => .bl _
theorem o_gt : Op2 K (rI0 fun i j => .bl (decide (j < i))) (g2I fun i j => .bl (decide (j < i))) := op2I fun _ _ _ => .bl _
theorem o_ge : Op2 K (rI0 fun i j => .bl (decide (j ≤ i))) (g2I fun i j => .bl (decide (j ≤ i))) := op2I fun _ _ _ => .bl _
theorem o_mod : Op2 K (rI (fun _ j => 0 < j) fun i j => .int (i % j)) (g2IC (fun _ j => 0 < j) fun i j => .int (i % j)) := op2IC fun _ _ _ => .int _
theorem o_pow : Op2 K (rI CPow fun i j => .int (i ^ j.toNat)) (g2IC CPow fun i j => .int (i ^ j.toNat)) := op2IC fun _ _ _ => .int _

end
end L3

/-! ## expressions, on -/
namespace L3
open PySem PySem.Spec PyProof.Rows L2
variable [TB : TabT]
section
variable {K : PySem.W.Frag} {W : WX}

def CT (X : Cx) (W : WX) (e : Expr) (w : TW) : Prop := ∃ t, PT X e t ∧ DT X.K W t w
def wB (we : EW) : TW := fun τ q e => we τ (fun d τ' => ∃ b, d = .bl b ∧ q b τ') e
theorem dt_B {t : TE} {w : EW} (h : DE K W t w) : DT K W (tB t) (wB w) := by
  refine ⟨fun σ H τ F Q q e S hw k x => h.run σ H τ F _ _ e S hw (fun v d τ' F' H' t' r ⟨b, e', hq⟩ => ?_) x⟩
  subst e'
  exact ⟨b, r.bl_of, k b τ' F' H' t' hq⟩
def wNot (wt : TW) : TW := fun τ q e => wt τ (fun b τ' => q (!b) τ') e
theorem dt_not {t : TT} {w : TW} (h : DT K W t w) : DT K W (tNot t) (wNot w) :=
  ⟨fun σ H τ F Q q e S hw k x => h.run σ H τ F _ _ e S hw (fun b τ' F' H' t' hq => k _ τ' F' H' t' hq) x⟩
def wAnd (wa wb : TW) : TW := fun τ q e => wa τ (fun b τ' => (b = true → wb τ' q e) ∧ (b = false → q false τ')) e
theorem dt_and {t u : TT} {w v : TW} (h : DT K W t w) (g : DT K W u v) : DT K W (tAnd t u) (wAnd w v) := by
  refine ⟨fun σ H τ F Q q e S hw k x => h.run σ H τ F _ _ e S hw (fun b τ' F' H' t' ⟨h1, h2⟩ => ?_) x⟩
  cases b with
  | true =>
    refine iteT ?_
    exact g.run σ H' τ' F' _ _ e t'.ok (h1 rfl) (fun b τ2 F2 H2 t2 hq => k b τ2 F2 H2 (t'.trans t2) hq) (x.of t')
  | false => exact iteF (k false τ' F' H' t' (h2 rfl))
def wOr (wa wb : TW) : TW := fun τ q e => wa τ (fun b τ' => (b = false → wb τ' q e) ∧ (b = true → q true τ')) e
theorem dt_or {t u : TT} {w v : TW} (h : DT K W t w) (g : DT K W u v) : DT K W (tOr t u) (wOr w v) := by
  refine ⟨fun σ H τ F Q q e S hw k x => h.run σ H τ F _ _ e S hw (fun b τ' F' H' t' ⟨h1, h2⟩ => ?_) x⟩
  cases b with
  | false =>
    refine iteF ?_
    exact g.run σ H' τ' F' _ _ e t'.ok (h1 rfl) (fun b τ2 F2 H2 t2 hq => k b τ2 F2 H2 (t'.trans t2) hq) (x.of t')
  | true => exact iteT (k true τ' F' H' t' (h2 rfl))
def wAndV (wa wb : EW) : EW := fun τ q e => wa τ (fun d τ' => ∃ b, d = .bl b ∧ (b = true → wb τ' q e) ∧ (b = false → q (.bl false) τ')) e
theorem de_and {t u : TE} {w v : EW} (h : DE K W t w) (g : DE K W u v) : DE K W (tAndV t u) (wAndV w v) := by
  refine ⟨fun σ H τ F Q q e S hw k x => h.run σ H τ F _ _ e S hw (fun z d τ' F' H' t' r ⟨b, e', h1, h2⟩ => ?_) x⟩
  subst e'
  refine ⟨b, r.bl_of, ?_⟩
  cases b with
  | true =>
    refine iteT ?_
    exact g.run σ H' τ' F' _ _ e t'.ok (h1 rfl) (fun z b τ2 F2 H2 t2 r2 hq => k z b τ2 F2 H2 (t'.trans t2) r2 hq) (x.of t')
  | false => exact iteF (k _ _ τ' F' H' t' (.bl false) (h2 rfl))
def wOrV (wa wb : EW) : EW := fun τ q e => wa τ (fun d τ' => ∃ b, d = .bl b ∧ (b = false → wb τ' q e) ∧ (b = true → q (.bl true) τ')) e
theorem de_or {t u : TE} {w v : EW} (h : DE K W t w) (g : DE K W u v) : DE K W (tOrV t u) (wOrV w v) := by
  refine ⟨fun σ H τ F Q q e S hw k x => h.run σ H τ F _ _ e S hw (fun z d τ' F' H' t' r ⟨b, e', h1, h2⟩ => ?_) x⟩
  subst e'
  refine ⟨b, r.bl_of, ?_⟩
  cases b with
  | false =>
    refine iteF ?_
    exact g.run σ H' τ' F' _ _ e t'.ok (h1 rfl) (fun z b τ2 F2 H2 t2 r2 hq => k z b τ2 F2 H2 (t'.trans t2) r2 hq) (x.of t')
  | true => exact iteT (k _ _ τ' F' H' t' (.bl true) (h2 rfl))
def wNotV (wa : EW) : EW := fun τ q e => wa τ (fun d τ' => ∃ b, d = .bl b ∧ q (.bl (!b)) τ') e
theorem de_not {t : TE} {w : EW} (h : DE K W t w) : DE K W (tNotV t) (wNotV w) := by
  refine ⟨fun σ H τ F Q q e S hw k x => h.run σ H τ F _ _ e S hw (fun z d τ' F' H' t' r ⟨b, e', h1⟩ => ?_) x⟩
  subst e'
  exact ⟨b, r.bl_of, k _ _ τ' F' H' t' (.bl _) h1⟩
def wChain (g g' : D → D → (D → Prop) → Prop) (wa wb wc : EW) : EW := fun τ q e => wa τ (fun d1 τ1 => wb τ1 (fun d2 τ2 => g d1 d2 fun d => ∃ b, d = .bl b ∧
  (b = true → wc τ2 (fun d3 τ3 => g' d2 d3 fun d => q d τ3) e) ∧ (b = false → q (.bl false) τ2)) e) e
theorem de_chain {r r' : R2} {g g' : D → D → (D → Prop) → Prop} {ta tb tc : TE} {wa wb wc : EW} (o : Op2 K r g) (o' : Op2 K r' g') (ha : DE K W ta wa) (hb : DE K W tb wb) (hc : DE K W tc wc) : DE K W (tChain r r' ta tb tc) (wChain g g' wa wb wc) := by
  refine ⟨fun σ H τ F Q q e S h k x => ?_⟩
  refine ha.run σ H τ F _ _ e S h (fun v1 d1 τ1 F1 H1 t1 r1 h1 => ?_) x
  refine hb.run σ H1 τ1 F1 _ _ e t1.ok h1 (fun v2 d2 τ2 F2 H2 t2 r2 h2 => ?_) (x.of t1)
  refine o F2 H2 v1 v2 d1 d2 _ _ t2.ok.sub (r1.mono t2.ext.f) r2 h2 fun v d F3 H3 e3 s3 r3 ⟨b, eb, h3, h4⟩ => ?_
  subst eb
  have t3 : To K F2 H2 σ τ2 F3 H3 τ2 := .small t2.ok e3 s3
  have t03 := (t1.trans t2).trans t3
  refine ⟨b, r3.bl_of, ?_⟩
  cases b with
  | false => exact iteF (k _ _ τ2 F3 H3 t03 (.bl false) (h4 rfl))
  | true =>
    refine iteT ?_
    refine hc.run σ H3 τ2 F3 _ _ e t3.ok (h3 rfl) (fun v4 d4 τ4 F4 H4 t4 r4 h5 => ?_) (x.of t03)
    refine o' F4 H4 v2 v4 d2 d4 _ Q t4.ok.sub (r2.mono ((e3.f).trans t4.ext.f)) r4 h5 fun v d F5 H5 e5 s5 r5 h6 => ?_
    exact k v d τ4 F5 H5 ((t03.trans t4).trans (.small t4.ok e5 s5)) r5 h6

/-! ### arguments, calls of built-ins -/
def wNil : AW := fun τ q _ => q [] τ
def wCons (we : EW) (wa : AW) : AW := fun τ q e => we τ (fun d τ1 => wa τ1 (fun ds τ2 => q (d :: ds) τ2) e) e
theorem da_nil : DA K W tNil wNil := ⟨fun σ H τ F Q q e S hq k _ => k [] [] τ F H (.refl S) .nil hq⟩
theorem da_cons {t : TE} {u : TA} {w : EW} {v : AW} (h : DE K W t w) (g : DA K W u v) : DA K W (tCons t u) (wCons w v) := by
  refine ⟨fun σ H τ F Q q e S hw k x => h.run σ H τ F _ _ e S hw (fun z d τ' F' H' t' r h1 => ?_) x⟩
  refine g.run σ H' τ' F' _ _ e t'.ok h1 (fun zs ds τ2 F2 H2 t2 r2 hq => ?_) (x.of t')
  exact k (z :: zs) (d :: ds) τ2 F2 H2 (t'.trans t2) (.cons (r.mono t2.ext.f) r2) hq
def OpN (K : PySem.W.Frag) (r : List V → Hp → VK → Prop) (g : List D → (D → Prop) → Prop) : Prop :=
  ∀ F H xs ds (q : D → Prop) Q, Same F H → Reps K F xs ds → g ds q → (∀ v d F' H', Ext [] F H F' H' → Same F' H' → Rep K F' v d → q d → Q v H') → r xs H Q
def wCB (g : List D → (D → Prop) → Prop) (wa : AW) : EW := fun τ q e => wa τ (fun ds τ' => g ds fun d => q d τ') e
theorem de_cb {r : List V → Hp → VK → Prop} {g : List D → (D → Prop) → Prop} {t : TA} {w : AW} (o : OpN K r g) (h : DA K W t w) : DE K W (tCB r t) (wCB g w) := by
  refine ⟨fun σ H τ F Q q e S hw k x => h.run σ H τ F _ _ e S hw (fun zs ds τ' F' H' t' r' h1 => ?_) x⟩
  refine o F' H' zs ds _ Q t'.ok.sub r' h1 fun v d F2 H2 e2 s2 r2 hq => ?_
  exact k v d τ' F2 H2 (t'.trans (.small t'.ok e2 s2)) r2 hq
def seqD : D → Option (List D)
  | .tup ds => some ds | .lst ds => some ds | .fl ds => some ds | _ => none
theorem Rep.seq {F : Hp} {v : V} {d : D} {ds : List D} (h : Rep K F v d) (e : seqD d = some ds) : ∃ a xs, v = .ref a ∧ (SqL K F a xs ∨ SqT K F a xs) ∧ Reps K F xs ds := by
  cases h with
  | tup h r => cases e; exact ⟨_, _, rfl, .inr h, r⟩
  | lst h r => cases e; exact ⟨_, _, rfl, .inl (.inl (.inl h)), r⟩
  | fl h r => cases e; exact ⟨_, _, rfl, .inl h, r⟩
  | _ => cases e
theorem Reps.one {F : Hp} {xs : List V} {d : D} (h : Reps K F xs [d]) : ∃ v, xs = [v] ∧ Rep K F v d := by
  cases h with
  | cons h t => cases t; exact ⟨_, rfl, h⟩
theorem Reps.two {F : Hp} {xs : List V} {d d' : D} (h : Reps K F xs [d, d']) : ∃ v v', xs = [v, v'] ∧ Rep K F v d ∧ Rep K F v' d' := by
  cases h with
  | cons h t => obtain ⟨u, rfl, r⟩ := Reps.one t; exact ⟨_, _, rfl, h, r⟩
def gLen : List D → (D → Prop) → Prop := fun ds q => ∃ d es, ds = [d] ∧ seqD d = some es ∧ q (.int es.length)
def rLenS (K : PySem.W.Frag) : List V → Hp → VK → Prop := fun xs H Q => ∃ p ys, xs = [.ref p] ∧ (SqL K H p ys ∨ SqT K H p ys) ∧ Q (.int ys.length) H
theorem o_len : OpN K (rLenS K) gLen := by
  rintro F H xs ds q Q s r ⟨d, es, rfl, e, hq⟩ k
  obtain ⟨v, rfl, r1⟩ := r.one
  obtain ⟨a, ys, rfl, h, r2⟩ := r1.seq e
  refine ⟨a, ys, rfl, h.imp (fun h => s.seq h) (fun h => SqT_mono s h), ?_⟩
  exact k _ (.int es.length) F H (.refl _ _ _) s (by rw [r2.length]; exact .int _) hq
structure InsTy (K : PySem.W.Frag) (C : Addr) : Prop where
  cl : Cls K C
  ha : PySem.W.findIn K (.ref C) "__class__" = some (some (.builtin "object.__class__"))
  hn : PySem.W.specialIn K (.builtin "object.__class__") "__get__" = some (some (.builtin "getset_descriptor.__get__"))
  ht : PySem.W.takesIn K (.builtin "object.__class__") = some true
  hm : PySem.W.mroIn K C (.type "object") = some true
/-- its type is known -/
def TyOk (K : PySem.W.Frag) (d : D) : Prop := noTy d ∨ ∃ C gs, d = .ins C gs ∧ InsTy K C
theorem Rep.tyO {F : Hp} {v : V} {d : D} (h : Rep K F v d) (n : TyOk K d) : TyX K F v (tyD d) := by
  rcases n with n | ⟨C, gs, rfl, c⟩
  · exact h.tyX n
  · cases h with
    | ins ea _ => exact .base (.ins ea c.cl c.ha c.hn c.ht c.hm)
def gIsi (K : PySem.W.Frag) : List D → (D → Prop) → Prop := fun ds q => ∃ d n b, ds = [d, .ty n] ∧ TyOk K d ∧ PySem.W.kitOne K (tyD d) (.type n) = some b ∧ q (.bl b)
theorem o_isi : OpN K (rIsi K) (gIsi K) := by
  rintro F H xs ds q Q s r ⟨d, n, b, rfl, nt, e, hq⟩ k
  obtain ⟨v, v', rfl, r1, r2⟩ := r.two
  cases r2
  exact ⟨v, .ty n, tyD d, .type n, b, rfl, .ty n, TyX_mono s (r1.tyO nt), e, k _ (.bl b) F H (.refl _ _ _) s (.bl b) hq⟩
def rAbs : List V → Hp → VK → Prop := fun xs H Q => ∃ i, xs = [.int i] ∧ Q (.int (if i < 0 then -i else i)) H
def gAbs : List D → (D → Prop) → Prop := fun ds q => ∃ i, ds = [.int i] ∧ q (.int (if i < 0 then -i else i))
theorem o_abs : OpN K rAbs gAbs := by
  rintro F H xs ds q Q s r ⟨i, rfl, hq⟩ k
  obtain ⟨v, rfl, r1⟩ := r.one
  exact ⟨i, by rw [r1.int_of], k _ _ F H (.refl _ _ _) s (.int _) hq⟩
def gGcd : List D → (D → Prop) → Prop := fun ds q => ∃ i j : Int, ds = [.int i, .int j] ∧ q (.int ((Nat.gcd i.natAbs j.natAbs : Nat) : Int))
theorem o_gcd : OpN K rGcd gGcd := by
  rintro F H xs ds q Q s r ⟨i, j, rfl, hq⟩ k
  obtain ⟨v, v', rfl, r1, r2⟩ := r.two
  exact ⟨i, j, by rw [r1.int_of, r2.int_of], k _ _ F H (.refl _ _ _) s (.int _) hq⟩
def gAll : List D → (D → Prop) → Prop := fun ds q => ∃ (es : List D) (bs : List Bool), (ds = [.lst es] ∨ ds = [.fl es]) ∧ es = bs.map D.bl ∧ q (.bl (bs.all id))
theorem o_all : OpN K (rAll K) gAll := by
  rintro F H xs ds q Q s r ⟨es, bs, e, rfl, hq⟩ k
  rcases e with rfl | rfl
  · obtain ⟨v, rfl, r1⟩ := r.one
    cases r1 with
    | lst h r2 =>
      have := Reps.bls r2
      subst this
      exact ⟨_, bs, rfl, .inl (.inl (s _ _ h)), k _ _ F H (.refl _ _ _) s (.bl _) hq⟩
  · obtain ⟨v, rfl, r1⟩ := r.one
    cases r1 with
    | fl h r2 =>
      have := Reps.bls r2
      subst this
      exact ⟨_, bs, rfl, s.seq h, k _ _ F H (.refl _ _ _) s (.bl _) hq⟩
def rInt1 : List V → Hp → VK → Prop := fun xs H Q => (∃ i, xs = [.int i] ∧ Q (.int i) H) ∨ ∃ k, xs = [.bl k] ∧ Q (.int (if k then 1 else 0)) H
def numD3 : D → Option Int | .int i => some i | .bl k => some (if k then 1 else 0) | _ => none
def gInt1 : List D → (D → Prop) → Prop := fun ds q => ∃ d i, ds = [d] ∧ numD3 d = some i ∧ q (.int i)
theorem o_int1 : OpN K rInt1 gInt1 := by
  rintro F H xs ds q Q s r ⟨d, i, rfl, e, hq⟩ k
  obtain ⟨v, rfl, r1⟩ := r.one
  cases d <;> simp [numD3] at e
  · subst e
    exact .inr ⟨_, by rw [r1.bl_of], k _ _ F H (.refl _ _ _) s (.int _) hq⟩
  · subst e
    exact .inl ⟨_, by rw [r1.int_of], k _ _ F H (.refl _ _ _) s (.int _) hq⟩
def rTupleOf (K : PySem.W.Frag) : List V → Hp → VK → Prop := fun xs H Q => ∃ p ys, xs = [.ref p] ∧ ((SqL K H p ys ∧ ∀ l, H l = none → Q (.ref l) (upd H l (.tup ys))) ∨ (SqT K H p ys ∧ Q (.ref p) H))
def gTupleOf : List D → (D → Prop) → Prop := fun ds q => ∃ d es, ds = [d] ∧ seqD d = some es ∧ q (.tup es)
theorem new_ext {F H : Hp} {p : Addr} {o : HO} (s : Same F H) (h : H p = none) (nt : NT o := by intro ps z; cases z) : Ext [] F H (upd F p o) (upd H p o) ∧ Same (upd F p o) (upd H p o) := by
  refine ⟨Ext.laid s h nt, fun a u e => ?_⟩
  by_cases q : a = p
  · subst q; rw [upd_same] at e ⊢; exact e
  · rw [upd_ne q] at e ⊢; exact s _ _ e
theorem new_none {F H : Hp} {p : Addr} (s : Same F H) (h : H p = none) : F p = none := by
  cases q : F p with
  | none => rfl
  | some u => rw [s _ _ q] at h; cases h
theorem new_same {F H : Hp} {p : Addr} {o : HO} (s : Same F H) (h : H p = none) : Same F (upd F p o) := fun a u e => by
  rw [upd_ne (ne_of_none e (new_none s h))]
  exact e
theorem o_tupleOf : OpN K (rTupleOf K) gTupleOf := by
  rintro F H xs ds q Q s r ⟨d, es, rfl, e, hq⟩ k
  obtain ⟨v, rfl, r1⟩ := r.one
  obtain ⟨a, ys, rfl, h, r2⟩ := r1.seq e
  rcases h with h | h
  · refine ⟨a, ys, rfl, .inl ⟨s.seq h, fun l hl => ?_⟩⟩
    obtain ⟨x1, x2⟩ := new_ext (o := .tup ys) s hl
    exact k _ (.tup es) _ _ x1 x2 (.tup (.inl (.inl upd_same)) (r2.mono (new_same s hl))) hq
  · exact ⟨a, ys, rfl, .inr ⟨SqT_mono s h, k _ (.tup es) F H (.refl _ _ _) s (.tup h r2) hq⟩⟩
def rListOf (K : PySem.W.Frag) : List V → Hp → VK → Prop := fun xs H Q => ∃ p ys, xs = [.ref p] ∧ (SqL K H p ys ∨ SqT K H p ys) ∧ ∀ l, H l = none → Q (.ref l) (upd H l (.lst ys))
def gListOf : List D → (D → Prop) → Prop := fun ds q => ∃ d es, ds = [d] ∧ seqD d = some es ∧ q (.lst es)
theorem o_listOf : OpN K (rListOf K) gListOf := by
  rintro F H xs ds q Q s r ⟨d, es, rfl, e, hq⟩ k
  obtain ⟨v, rfl, r1⟩ := r.one
  obtain ⟨a, ys, rfl, h, r2⟩ := r1.seq e
  refine ⟨a, ys, rfl, h.imp (fun h => s.seq h) (fun h => SqT_mono s h), fun l hl => ?_⟩
  obtain ⟨x1, x2⟩ := new_ext (o := .lst ys) s hl
  exact k _ (.lst es) _ _ x1 x2 (.lst upd_same (r2.mono (new_same s hl))) hq

/-! ### subscripts, displays, slices -/
def gIx : D → D → (D → Prop) → Prop := fun x y q => ∃ es i d, seqD x = some es ∧ y = .int i ∧ atI es i = some d ∧ q d
theorem atI_rep {F : Hp} {xs : List V} {ds : List D} {i : Int} {d : D} (r : Reps K F xs ds) (e : atI ds i = some d) : ∃ v, atI xs i = some v ∧ Rep K F v d := by
  unfold atI at e ⊢
  rw [r.length]
  cases h : ixN ds.length i with
  | none => rw [h] at e; cases e
  | some j =>
    rw [h] at e
    exact r.getD e
theorem o_ix : Op2 K (rIx K) gIx := by
  rintro F H x y d1 d2 q Q s r1 r2 ⟨es, i, d, e, rfl, ei, hq⟩ k
  obtain ⟨a, xs, rfl, h, r3⟩ := r1.seq e
  obtain ⟨v, ev, rv⟩ := atI_rep r3 ei
  have fin : Q v H := k v d F H (.refl _ _ _) s rv hq
  rcases h with h | h
  · exact .inl ⟨a, xs, i, v, rfl, r2.int_of, s.seq h, ev, fin⟩
  · exact .inr (.inl ⟨a, xs, i, v, rfl, r2.int_of, SqT_mono s h, ev, fin⟩)
def wTup (wa : AW) : EW := fun τ q e => wa τ (fun ds τ' => ds.length ≤ 1000 ∧ q (.tup ds) τ') e
theorem de_tup {t : TA} {w : AW} (h : DA K W t w) : DE K W (tTup t) (wTup w) := by
  refine ⟨fun σ H τ F Q q e S hw k x => h.run σ H τ F _ _ e S hw (fun zs ds τ' F' H' t' r' ⟨hl, hq⟩ => ?_) x⟩
  refine ⟨by rw [r'.length]; exact Nat.le_of_lt (small1000 hl), fun p hp => ?_⟩
  obtain ⟨x1, x2⟩ := new_ext (o := .tup zs) t'.ok.sub hp
  exact k _ (.tup ds) τ' _ _ (t'.trans (.small t'.ok x1 x2)) (.tup (.inl (.inl upd_same)) (r'.mono (new_same t'.ok.sub hp))) hq
def wLst (wa : AW) : EW := fun τ q e => wa τ (fun ds τ' => ds.length ≤ 1000 ∧ q (.lst ds) τ') e
theorem de_lst {t : TA} {w : AW} (h : DA K W t w) : DE K W (tLst t) (wLst w) := by
  refine ⟨fun σ H τ F Q q e S hw k x => h.run σ H τ F _ _ e S hw (fun zs ds τ' F' H' t' r' ⟨hl, hq⟩ => ?_) x⟩
  refine ⟨by rw [r'.length]; exact Nat.le_of_lt (small1000 hl), fun p hp => ?_⟩
  obtain ⟨x1, x2⟩ := new_ext (o := .lst zs) t'.ok.sub hp
  exact k _ (.lst ds) τ' _ _ (t'.trans (.small t'.ok x1 x2)) (.lst upd_same (r'.mono (new_same t'.ok.sub hp))) hq
abbrev OW := List Cell → (Option Int → List Cell → Prop) → (Xn → List Cell → Prop) → Prop
structure DO (K : PySem.W.Frag) (W : WX) (t : TO) (w : OW) : Prop where
  run : ∀ σ H τ F Q q e, SOk K F H σ τ → w τ q e → (∀ b τ' F' H', To K F H σ τ F' H' τ' → q b τ' → Q b H') → XTo K W F H σ τ e → t σ H Q
def wNoPart : OW := fun τ q _ => q none τ
def wPart (we : EW) : OW := fun τ q e => we τ (fun d τ' => ∃ i, d = .int i ∧ q (some i) τ') e
theorem do_no : DO K W tNoPart wNoPart := ⟨fun σ H τ F Q q e S hq k _ => k none τ F H (.refl S) hq⟩
theorem do_part {t : TE} {w : EW} (h : DE K W t w) : DO K W (tPart t) (wPart w) := by
  refine ⟨fun σ H τ F Q q e S hw k x => h.run σ H τ F _ _ e S hw (fun z d τ' F' H' t' r ⟨i, ei, hq⟩ => ?_) x⟩
  subst ei
  exact ⟨i, r.int_of, k _ τ' F' H' t' hq⟩
def cutDs {α : Type} (xs : List α) (lo hi : Option Int) : List α := (xs.drop (HT.sIx xs.length 0 lo)).take (HT.sIx xs.length xs.length hi - HT.sIx xs.length 0 lo)
theorem cut_rep {F : Hp} {xs : List V} {ds : List D} {lo hi : Option Int} (r : Reps K F xs ds) : Reps K F (cutV xs lo hi) (cutDs ds lo hi) := by
  unfold cutV cutDs
  rw [r.length]
  exact (r.drop _).take _
def wSlT (we : EW) (wl wh : OW) : EW := fun τ q e => we τ (fun d τ1 => wl τ1 (fun lo τ2 => wh τ2 (fun hi τ3 => ∃ es, d = .tup es ∧ ¬ (HT.sIx es.length 0 lo = 0 ∧ HT.sIx es.length es.length hi = es.length) ∧ q (.tup (cutDs es lo hi)) τ3) e) e) e
theorem de_slT {t : TE} {tl th : TO} {w : EW} {wl wh : OW} (h : DE K W t w) (hl : DO K W tl wl) (hh : DO K W th wh) : DE K W (tSl (rSlT K) t tl th) (wSlT w wl wh) := by
  refine ⟨fun σ H τ F Q q e S hw k x => h.run σ H τ F _ _ e S hw (fun z d τ1 F1 H1 t1 r1 h1 => ?_) x⟩
  refine hl.run σ H1 τ1 F1 _ _ e t1.ok h1 (fun lo τ2 F2 H2 t2 h2 => ?_) (x.of t1)
  refine hh.run σ H2 τ2 F2 _ _ e t2.ok h2 (fun hi τ3 F3 H3 t3 h3 => ?_) (x.of (t1.trans t2))
  obtain ⟨es, rfl, hn, hq⟩ := h3
  have r3 := (r1.mono t2.ext.f).mono t3.ext.f
  cases r3 with
  | @tup a xs _ hs r =>
    refine ⟨a, xs, rfl, SqT_mono t3.ok.sub hs, by rw [r.length]; exact hn, fun p hp => ?_⟩
    obtain ⟨x1, x2⟩ := new_ext (o := .tup (cutV xs lo hi)) t3.ok.sub hp
    exact k _ (.tup (cutDs es lo hi)) τ3 _ _ (((t1.trans t2).trans t3).trans (.small t3.ok x1 x2)) (.tup (.inl (.inl upd_same)) ((cut_rep r).mono (new_same t3.ok.sub hp))) hq
/-- t + u -/
def gCatT : D → D → (D → Prop) → Prop := fun x y q => ∃ as bs, x = .tup as ∧ y = .tup bs ∧ as ≠ [] ∧ as.length + bs.length ≤ 1000 ∧ q (.tup (as ++ bs))
/-- xs + ys -/
def gCat : D → D → (D → Prop) → Prop := fun x y q => ∃ as bs, x = .lst as ∧ y = .lst bs ∧ as.length + bs.length ≤ 1000 ∧ q (.lst (as ++ bs))
theorem o_cat : Op2 K rCat gCat := by
  rintro F H x y d1 d2 q Q s r1 r2 ⟨as, bs, rfl, rfl, hl, hq⟩ k
  cases r1 with
  | @lst a xs _ h1 r1 =>
    cases r2 with
    | @lst b ys _ h2 r2 =>
      refine ⟨a, b, xs, ys, rfl, rfl, s _ _ h1, s _ _ h2, by rw [r1.length, r2.length]; exact Nat.le_of_lt (small1000 hl), fun p hp => ?_⟩
      obtain ⟨x1, x2⟩ := new_ext (o := .lst (xs ++ ys)) s hp
      exact k _ (.lst (as ++ bs)) _ _ x1 x2 (.lst upd_same ((r1.append r2).mono (new_same s hp))) hq
end
end L3

/-! ## what is walked, targets, comprehensions -/
namespace L3
open PySem PySem.Spec PyProof.Rows L2
variable [TB : TabT]

/-- a list or a tuple that is walked -/
def iSeq (K : PySem.W.Frag) (tl : TE) : TI := fun σ H R => tl σ H fun x H1 => ∃ a, x = .ref a ∧ (((∃ xs, SqL K H1 a xs) ∧ R (Itl K a) H1) ∨ ((∃ xs, SqT K H1 a xs) ∧ R (Itt K a) H1))
theorem pi_seq {X : Cx} {tg l : Expr} {tl : TE} (hl : PE X l tl) : PI X tg l (iSeq X.K tl) := by
  refine ⟨fun pins st σ H R J hh => ?_⟩
  refine thn (hl.run pins st σ H _ J hh) fun val st1 ⟨y, G, J1, rel, way⟩ => ?_
  obtain ⟨adr, hy, way⟩ := way
  subst hy
  cases rel
  have kept : ∀ ob : Obj, Inv X pins σ G { st1 with heap := st1.heap.push ob } := fun ob => J1.kept (t' := st1.toks) fun c u q => Heap.get?_push_of_some _ q
  have fresh : ∀ c ∈ [st1.heap.objs.size], FpOk X pins G c := fun c hc => by
    obtain rfl : c = st1.heap.objs.size := by simpa using hc
    exact J1.fpOk (Nat.le_refl _) (J1.hok.fresh (Nat.le_refl _))
  rcases way with ⟨⟨ys, hq⟩, q⟩ | ⟨⟨ys, hq⟩, q⟩
  · obtain ⟨its, rv, at_, _⟩ := J1.list hq
    exact wpAny_pyIter_list at_.isList ⟨st1.heap.objs.size, [st1.heap.objs.size], _, _, G, rfl, kept _, turn_list adr _, ⟨_, Heap.get?_push_size _ rfl, rfl, rfl⟩, fresh, q⟩
  · obtain ⟨its, rv, at_, _⟩ := J1.tuple hq
    exact wpAny_pyIter_tuple at_ ⟨st1.heap.objs.size, [st1.heap.objs.size], _, _, G, rfl, kept _, turn_tuple adr _, ⟨_, Heap.get?_push_size _ rfl, rfl, rfl⟩, fresh, q⟩

structure ItOk (K : PySem.W.Frag) (F : Hp) (J : It) (ds : List D) : Prop where
  go : ∀ i F2 H, Same F F2 → Same F2 H → i < ds.length → J.go i H
  stop : ∀ F2 H, Same F F2 → Same F2 H → J.stop ds.length H
  yld : ∀ i F2 H x H', Same F F2 → Same F2 H → i < ds.length → J.yld i H x H' → ∃ d F3, ds[i]? = some d ∧ Ext [] F2 H F3 H' ∧ Same F3 H' ∧ Rep K F3 x d
abbrev IW := List Cell → (List D → List Cell → Prop) → (Xn → List Cell → Prop) → Prop
structure DI (K : PySem.W.Frag) (W : WX) (t : TI) (w : IW) : Prop where
  run : ∀ σ H τ F R q e, SOk K F H σ τ → w τ q e → (∀ J ds τ' F' H', To K F H σ τ F' H' τ' → ItOk K F' J ds → q ds τ' → R J H') → XTo K W F H σ τ e → t σ H R
section
variable {K : PySem.W.Frag} {W : WX}
theorem it_list {F : Hp} {a : Addr} {xs : List V} {ds : List D} (h : SqL K F a xs) (r : Reps K F xs ds) : ItOk K F (Itl K a) ds := by
  refine ⟨fun i F2 H s s2 hi => ?_, fun F2 H s s2 => ⟨xs, s2.seq (s.seq h), by rw [r.length]; exact Nat.le_refl _⟩, fun i F2 H x H' s s2 hi y => ?_⟩
  · rw [← r.length] at hi
    exact ⟨xs, xs[i], s2.seq (s.seq h), List.getElem?_eq_getElem hi⟩
  · obtain ⟨rfl, e⟩ := y
    obtain ⟨d, e1, e2⟩ := (r.mono s).get (e xs (s2.seq (s.seq h)))
    exact ⟨d, F2, e1, .refl _ _ _, s2, e2⟩
theorem it_tup {F : Hp} {a : Addr} {xs : List V} {ds : List D} (h : SqT K F a xs) (r : Reps K F xs ds) : ItOk K F (Itt K a) ds := by
  refine ⟨fun i F2 H s s2 hi => ?_, fun F2 H s s2 => ⟨xs, SqT_mono s2 (SqT_mono s h), by rw [r.length]; exact Nat.le_refl _⟩, fun i F2 H x H' s s2 hi y => ?_⟩
  · rw [← r.length] at hi
    exact ⟨xs, xs[i], SqT_mono s2 (SqT_mono s h), List.getElem?_eq_getElem hi⟩
  · obtain ⟨rfl, e⟩ := y
    obtain ⟨d, e1, e2⟩ := (r.mono s).get (e xs (SqT_mono s2 (SqT_mono s h)))
    exact ⟨d, F2, e1, .refl _ _ _, s2, e2⟩
def rangeD (lo : Int) (n : Nat) : List D := (List.range n).map fun i => .int (lo + (i : Nat))
theorem rangeD_length {lo : Int} {n : Nat} : (rangeD lo n).length = n := by unfold rangeD; rw [List.length_map, List.length_range]
theorem rangeD_get {lo : Int} {n i : Nat} (h : i < n) : (rangeD lo n)[i]? = some (.int (lo + (i : Nat))) := by
  unfold rangeD
  rw [List.getElem?_map, List.getElem?_range h]
  rfl
theorem it_range {F : Hp} {lo : Int} {n : Nat} : ItOk K F (Itr lo n) (rangeD lo n) := by
  refine ⟨fun i F2 H s s2 hi => ?_, fun F2 H s s2 => ?_, fun i F2 H x H' s s2 hi y => ?_⟩
  · rw [rangeD_length] at hi; exact hi
  · rw [rangeD_length]; exact Nat.le_refl n
  · rw [rangeD_length] at hi
    obtain ⟨rfl, rfl⟩ := y
    exact ⟨_, F2, rangeD_get hi, .refl _ _ _, s2, .int _⟩
def wSeq (we : EW) : IW := fun τ q e => we τ (fun d τ' => ∃ es, seqD d = some es ∧ q es τ') e
theorem di_seq {t : TE} {w : EW} (h : DE K W t w) : DI K W (iSeq K t) (wSeq w) := by
  refine ⟨fun σ H τ F R q e S hw k x => h.run σ H τ F _ _ e S hw (fun v d τ' F' H' t' r ⟨es, ee, hq⟩ => ?_) x⟩
  obtain ⟨a, xs, rfl, hs, r2⟩ := r.seq ee
  rcases hs with hs | hs
  · exact ⟨a, rfl, .inl ⟨⟨xs, t'.ok.sub.seq hs⟩, k _ es τ' F' H' t' (it_list hs r2) hq⟩⟩
  · exact ⟨a, rfl, .inr ⟨⟨xs, SqT_mono t'.ok.sub hs⟩, k _ es τ' F' H' t' (it_tup hs r2) hq⟩⟩
def wRng1 (wa : AW) : IW := fun τ q e => wa τ (fun ds τ' => ∃ j : Int, ds = [.int j] ∧ -(2 ^ 62) ≤ j ∧ j < 2 ^ 62 ∧ q (rangeD 0 j.toNat) τ') e
theorem di_rng1 {t : TA} {w : AW} (h : DA K W t w) : DI K W (iRng1 t) (wRng1 w) := by
  refine ⟨fun σ H τ F R q e S hw k x => h.run σ H τ F _ _ e S hw (fun vs ds τ' F' H' t' r ⟨j, ej, h1, h2, hq⟩ => ?_) x⟩
  subst ej
  obtain ⟨v, rfl, r1⟩ := r.one
  exact ⟨j, by rw [r1.int_of], h1, h2, k _ _ τ' F' H' t' it_range hq⟩
def wRng2 (wa : AW) : IW := fun τ q e => wa τ (fun ds τ' => ∃ i j : Int, ds = [.int i, .int j] ∧ (-(2 ^ 62) ≤ i ∧ i < 2 ^ 62 ∧ -(2 ^ 62) ≤ j ∧ j < 2 ^ 62) ∧ q (rangeD i (j - i).toNat) τ') e
theorem di_rng2 {t : TA} {w : AW} (h : DA K W t w) : DI K W (iRng2 t) (wRng2 w) := by
  refine ⟨fun σ H τ F R q e S hw k x => h.run σ H τ F _ _ e S hw (fun vs ds τ' F' H' t' r ⟨i, j, ej, h1, hq⟩ => ?_) x⟩
  subst ej
  obtain ⟨v, v', rfl, r1, r2⟩ := r.two
  exact ⟨i, j, by rw [r1.int_of, r2.int_of], h1, k _ _ τ' F' H' t' it_range hq⟩
def zipD (xs ys : List D) : List D := List.zipWith (fun x y => .tup [x, y]) xs ys
theorem zip_get {xs ys : List D} {i : Nat} (h : i < (zipD xs ys).length) : ∃ x y, xs[i]? = some x ∧ ys[i]? = some y ∧ (zipD xs ys)[i]? = some (.tup [x, y]) := by
  have h' : i < min xs.length ys.length := by unfold zipD at h; rw [List.length_zipWith] at h; exact h
  have h1 : i < xs.length := by omega
  have h2 : i < ys.length := by omega
  refine ⟨xs[i], ys[i], List.getElem?_eq_getElem h1, List.getElem?_eq_getElem h2, ?_⟩
  unfold zipD
  rw [List.getElem?_zipWith, List.getElem?_eq_getElem h1, List.getElem?_eq_getElem h2]
theorem same_upd {H : Hp} {p : Addr} {o : HO} (h : H p = none) : Same H (upd H p o) := fun b x e => by
  rw [upd_ne (ne_of_none e h)]
  exact e
theorem it_zip {F : Hp} {J : It} {xs ys : List V} {ds es : List D} (r : Reps K F xs ds) (r' : Reps K F ys es) (hgo : ∀ i H x y, Same F H → xs[i]? = some x → ys[i]? = some y → J.go i H)
    (hst : ∀ i H, Same F H → (xs.length ≤ i ∨ ys.length ≤ i) → J.stop i H)
    (hy : ∀ i H v H', Same F H → J.yld i H v H' → ∃ T x y, v = .ref T ∧ H T = none ∧ H' = upd H T (.tup [x, y]) ∧ xs[i]? = some x ∧ ys[i]? = some y) : ItOk K F J (zipD ds es) := by
  refine ⟨fun i F2 H s s2 hi => ?_, fun F2 H s s2 => ?_, fun i F2 H x H' s s2 hi y => ?_⟩
  · obtain ⟨x, y, e1, e2, _⟩ := zip_get hi
    obtain ⟨v, h1, _⟩ := r.getD e1
    obtain ⟨u, h2, _⟩ := r'.getD e2
    exact hgo i H v u (s.trans s2) h1 h2
  · refine hst _ H (s.trans s2) ?_
    unfold zipD
    rw [List.length_zipWith, r.length, r'.length]
    omega
  · obtain ⟨T, u, v, rfl, hT, rfl, e1, e2⟩ := hy i H x H' (s.trans s2) y
    obtain ⟨a, b, f1, f2, f3⟩ := zip_get hi
    obtain ⟨a', g1, g2⟩ := (r.mono s).get e1
    obtain ⟨b', g3, g4⟩ := (r'.mono s).get e2
    rw [f1] at g1; cases g1
    rw [f2] at g3; cases g3
    obtain ⟨x1, x2⟩ := new_ext (o := .tup [u, v]) s2 hT
    have sm := new_same (o := .tup [u, v]) s2 hT
    exact ⟨_, _, f3, x1, x2, .tup (.inl (.inl upd_same)) (.cons (g2.mono sm) (.cons (g4.mono sm) .nil))⟩
def wZip (wa : AW) : IW := fun τ q e => wa τ (fun ds τ' => ∃ xs ys, (ds = [.tup xs, .tup ys] ∨ ds = [.lst xs, .lst ys] ∨ ds = [.fl xs, .lst ys] ∨ ds = [.lst xs, .fl ys]) ∧ q (zipD xs ys) τ') e
theorem di_zip {t : TA} {w : AW} (h : DA K W t w) : DI K W (RZ.iZipA K t) (wZip w) := by
  refine ⟨fun σ H τ F R q e S hw k x => h.run σ H τ F _ _ e S hw (fun vs ds τ' F' H' t' r ⟨xs, ys, ej, hq⟩ => ?_) x⟩
  have lst : ∀ {d1 d2 : D}, ds = [d1, d2] → seqD d1 = some xs → seqD d2 = some ys → (∀ z : List D, d1 ≠ .tup z) → (∀ z : List D, d2 ≠ .tup z) →
      ∃ a b us vs', vs = [.ref a, .ref b] ∧ SqL K F' a us ∧ SqL K F' b vs' ∧ Reps K F' us xs ∧ Reps K F' vs' ys := by
    rintro d1 d2 rfl e1 e2 n1 n2
    obtain ⟨v, v', rfl, r1, r2⟩ := r.two
    have key : ∀ {v : V} {d : D} {zs : List D}, Rep K F' v d → seqD d = some zs → (∀ z : List D, d ≠ .tup z) → ∃ a us, v = .ref a ∧ SqL K F' a us ∧ Reps K F' us zs := by
      intro v d zs r e n
      cases r with
      | tup h r => exact absurd rfl (n _)
      | lst h r => cases e; exact ⟨_, _, rfl, .inl (.inl h), r⟩
      | fl h r => cases e; exact ⟨_, _, rfl, h, r⟩
      | _ => cases e
    obtain ⟨a, us, rfl, h1, h2⟩ := key r1 e1 n1
    obtain ⟨b, ws, rfl, h3, h4⟩ := key r2 e2 n2
    exact ⟨a, b, us, ws, rfl, h1, h3, h2, h4⟩
  have finL : (∃ a b us vs', vs = [.ref a, .ref b] ∧ SqL K F' a us ∧ SqL K F' b vs' ∧ Reps K F' us xs ∧ Reps K F' vs' ys) → RZ.iZipA K (fun _ H Q => Q vs H) σ H' R := by
    rintro ⟨a, b, us, ws, rfl, h1, h3, h2, h4⟩
    refine ⟨a, b, us, ws, rfl, .inl ⟨t'.ok.sub.seq h1, t'.ok.sub.seq h3, k _ _ τ' F' H' t' (it_zip h2 h4 ?_ ?_ ?_) hq⟩⟩
    · exact fun i H x y s e1 e2 => ⟨us, ws, x, y, s.seq h1, s.seq h3, e1, e2⟩
    · exact fun i H s e => ⟨us, ws, s.seq h1, s.seq h3, e⟩
    · rintro i H v H' s ⟨T, x, y, rfl, hT, rfl, e1, e2⟩
      exact ⟨T, x, y, rfl, hT, rfl, e1 _ (s.seq h1), e2 _ (s.seq h3)⟩
  rcases ej with rfl | rfl | rfl | rfl
  · obtain ⟨v, v', rfl, r1, r2⟩ := r.two
    cases r1 with
    | @tup a us _ h1 h2 =>
      cases r2 with
      | @tup b ws _ h3 h4 =>
        refine ⟨a, b, us, ws, rfl, .inr ⟨SqT_mono t'.ok.sub h1, SqT_mono t'.ok.sub h3, k _ _ τ' F' H' t' (it_zip h2 h4 ?_ ?_ ?_) hq⟩⟩
        · exact fun i H x y s e1 e2 => ⟨us, ws, x, y, SqT_mono s h1, SqT_mono s h3, e1, e2⟩
        · exact fun i H s e => ⟨us, ws, SqT_mono s h1, SqT_mono s h3, e⟩
        · rintro i H v H' s ⟨T, x, y, rfl, hT, rfl, e1, e2⟩
          exact ⟨T, x, y, rfl, hT, rfl, e1 _ (SqT_mono s h1), e2 _ (SqT_mono s h3)⟩
  · exact finL (lst rfl rfl rfl (fun z e => by cases e) (fun z e => by cases e))
  · exact finL (lst rfl rfl rfl (fun z e => by cases e) (fun z e => by cases e))
  · exact finL (lst rfl rfl rfl (fun z e => by cases e) (fun z e => by cases e))

/-! ### targets -/
abbrev GW := D → List Cell → (List Cell → Prop) → Prop
abbrev GsW := List D → List Cell → (List Cell → Prop) → Prop
structure DG (K : PySem.W.Frag) (vs : List Nat) (g : TG) (w : GW) : Prop where
  run : ∀ σ H τ F v d Q q, SOk K F H σ τ → Rep K F v d → w d τ q → (∀ σ' τ', SOk K F H σ' τ' → (∀ p, IsOwn τ' p → IsOwn τ p) → (∀ j, j ∉ vs → σ'[j]? = σ[j]?) → σ'.length = σ.length → q τ' → Q σ' H) → g v σ H Q
structure DGs (K : PySem.W.Frag) (vs : List Nat) (g : TGs) (w : GsW) : Prop where
  run : ∀ σ H τ F us ds Q q, SOk K F H σ τ → Reps K F us ds → w ds τ q → (∀ σ' τ', SOk K F H σ' τ' → (∀ p, IsOwn τ' p → IsOwn τ p) → (∀ j, j ∉ vs → σ'[j]? = σ[j]?) → σ'.length = σ.length → q τ' → Q σ' H) → g us σ H Q
theorem SOk.set {F H : Hp} {σ : L2.St} {τ : List Cell} {i : Nat} {v : V} {d : D} (S : SOk K F H σ τ) (r : Rep K F v d) : SOk K F H (σ.set i (some v)) (τ.set i (.dat d)) := by
  refine ⟨S.tabs, S.sub, by rw [List.length_set, List.length_set, S.len], fun j s c h1 h2 => ?_, fun j c h => ?_, S.inj.set fun a z => z.elim⟩
  rotate_left
  · rcases set_get h with ⟨_, rfl, _⟩ | ⟨_, h⟩
    · exact trivial
    · exact S.own j c h
  by_cases e : i = j
  · subst e
    by_cases hl : i < σ.length
    · rw [List.getElem?_set_self hl] at h1
      rw [List.getElem?_set_self (by rw [← S.len]; exact hl)] at h2
      cases h1; cases h2
      exact ⟨v, rfl, r⟩
    · rw [List.getElem?_eq_none (by rw [List.length_set]; exact Nat.le_of_not_lt hl)] at h1
      cases h1
  · rw [List.getElem?_set_ne e] at h1 h2
    exact S.slot j s c h1 h2
def wName (i : Nat) : GW := fun d τ q => q (τ.set i (.dat d))
theorem dg_name (i : Nat) : DG K [i] (gName i) (wName i) := by
  refine ⟨fun σ H τ F v d Q q S r hw k => ?_⟩
  refine k (σ.set i (some v)) (τ.set i (.dat d)) (S.set r) (fun p h => isOwn_set (c := .dat d) (fun a z => z) h) (fun j hj => ?_) (List.length_set ..) hw
  rw [List.getElem?_set_ne (fun z => hj (by rw [z]; exact List.mem_cons_self ..))]
def wNilT : GsW := fun ds τ q => ds = [] ∧ q τ
def wConsT (w : GW) (u : GsW) : GsW := fun ds τ q => ∃ d r, ds = d :: r ∧ w d τ fun τ' => u r τ' q
theorem dgs_nil : DGs K [] gNil wNilT := by
  refine ⟨fun σ H τ F us ds Q q S r ⟨e, hq⟩ k => ?_⟩
  subst e
  cases r
  exact ⟨rfl, k σ τ S (fun _ h => h) (fun _ _ => rfl) rfl hq⟩
theorem dgs_cons {vs ws : List Nat} {g : TG} {u : TGs} {w : GW} {wu : GsW} (h : DG K vs g w) (h' : DGs K ws u wu) : DGs K (vs ++ ws) (gCons g u) (wConsT w wu) := by
  refine ⟨fun σ H τ F us ds Q q S r hw k => ?_⟩
  obtain ⟨d, rs, rfl, hw⟩ := hw
  cases r with
  | @cons v vs' _ _ r1 r2 =>
    refine ⟨v, vs', rfl, ?_⟩
    refine h.run σ H τ F v d _ _ S r1 hw fun σ1 τ1 S1 o1 a1 l1 hw1 => ?_
    refine h'.run σ1 H τ1 F vs' rs _ _ S1 r2 hw1 fun σ2 τ2 S2 o2 a2 l2 hq => ?_
    refine k σ2 τ2 S2 (fun p hp => o1 p (o2 p hp)) (fun j hj => ?_) (l2.trans l1) hq
    rw [List.mem_append, not_or] at hj
    exact (a2 j hj.2).trans (a1 j hj.1)
def wTupT (n : Nat) (w : GsW) : GW := fun d τ q => ∃ ds, d = .tup ds ∧ ds.length = n ∧ w ds τ q
theorem dg_tup {vs : List Nat} {n : Nat} {g : TGs} {w : GsW} (h : DGs K vs g w) : DG K vs (gTup K n g) (wTupT n w) := by
  refine ⟨fun σ H τ F v d Q q S r hw k => ?_⟩
  obtain ⟨ds, rfl, hn, hw⟩ := hw
  cases r with
  | @tup a xs _ hs r =>
    exact ⟨a, xs, rfl, SqT_mono S.sub hs, by rw [r.length]; exact hn, h.run σ H τ F xs ds _ _ S r hw k⟩

/-! ### comprehensions -/
theorem wipe_get : ∀ (vs : List Nat) (σ : L2.St) (j : Nat), (wipe σ vs)[j]? = if j ∈ vs ∧ j < σ.length then some none else σ[j]?
  | [], σ, j => by unfold wipe; simp
  | v :: vs, σ, j => by
    unfold wipe
    by_cases e : v = j
    · subst e
      by_cases hl : v < σ.length
      · rw [List.getElem?_set_self (by rw [wipe_length]; exact hl), if_pos ⟨List.mem_cons_self .., hl⟩]
      · rw [List.getElem?_eq_none (by rw [List.length_set, wipe_length]; exact Nat.le_of_not_lt hl), if_neg (fun z => hl z.2), List.getElem?_eq_none (Nat.le_of_not_lt hl)]
    · rw [List.getElem?_set_ne e, wipe_get vs σ j]
      have : (j ∈ v :: vs) ↔ j ∈ vs := by
        rw [List.mem_cons]
        exact ⟨fun h => h.elim (fun z => absurd z.symm e) id, .inr⟩
      simp only [this]
def wipeD (τ : List Cell) : List Nat → List Cell
  | [] => τ
  | v :: vs => (wipeD τ vs).set v .any
theorem wipeD_length (τ : List Cell) : ∀ vs : List Nat, (wipeD τ vs).length = τ.length
  | [] => rfl
  | v :: vs => by unfold wipeD; rw [List.length_set, wipeD_length τ vs]
theorem wipeD_get : ∀ (vs : List Nat) (τ : List Cell) (j : Nat), (wipeD τ vs)[j]? = if j ∈ vs ∧ j < τ.length then some .any else τ[j]?
  | [], σ, j => by unfold wipeD; simp
  | v :: vs, σ, j => by
    unfold wipeD
    by_cases e : v = j
    · subst e
      by_cases hl : v < σ.length
      · rw [List.getElem?_set_self (by rw [wipeD_length]; exact hl), if_pos ⟨List.mem_cons_self .., hl⟩]
      · rw [List.getElem?_eq_none (by rw [List.length_set, wipeD_length]; exact Nat.le_of_not_lt hl), if_neg (fun z => hl z.2), List.getElem?_eq_none (Nat.le_of_not_lt hl)]
    · rw [List.getElem?_set_ne e, wipeD_get vs σ j]
      have : (j ∈ v :: vs) ↔ j ∈ vs := by
        rw [List.mem_cons]
        exact ⟨fun h => h.elim (fun z => absurd z.symm e) id, .inr⟩
      simp only [this]
theorem wipeD_own {τ : List Cell} {vs : List Nat} {j : Nat} {c : Cell} (h : (wipeD τ vs)[j]? = some c) : c = .any ∨ (τ[j]? = some c ∧ j ∉ vs) := by
  rw [wipeD_get] at h
  split at h
  · cases h; exact .inl rfl
  · rename_i n
    exact .inr ⟨h, fun hj => n ⟨hj, (List.getElem?_eq_some_iff.mp h).1⟩⟩
theorem wipeD_has {τ : List Cell} {vs : List Nat} {j : Nat} {c : Cell} {a : Addr} (h : (wipeD τ vs)[j]? = some c) (f : Has c a) : τ[j]? = some c := by
  rcases wipeD_own h with rfl | h
  · exact f.elim
  · exact h.1
/-- slots are forgotten; the values there may be any -/
theorem SOk.wiped {F H : Hp} {σ σ' : L2.St} {τ : List Cell} {vs : List Nat} (S : SOk K F H σ τ) (hl : σ'.length = σ.length) (h : ∀ j, j ∉ vs → σ'[j]? = σ[j]?) : SOk K F H σ' (wipeD τ vs) := by
  refine ⟨S.tabs, S.sub, by rw [hl, S.len, wipeD_length], fun j s c h1 h2 => ?_, fun j c e => ?_, fun j k c d a e1 e2 f1 f2 => S.inj j k c d a (wipeD_has e1 f1) (wipeD_has e2 f2) f1 f2⟩
  rotate_left
  · rcases wipeD_own e with rfl | e
    · exact trivial
    · exact S.own j c e.1
  rw [wipeD_get] at h2
  split at h2
  · cases h2; exact trivial
  · rename_i n
    have hj : j ∉ vs := fun hj => n ⟨hj, (List.getElem?_eq_some_iff.mp h2).1⟩
    rw [h j hj] at h1
    exact S.slot j s c h1 h2
theorem wipe_ne {σ : L2.St} {vs : List Nat} {j : Nat} (h : j ∉ vs) : (wipe σ vs)[j]? = σ[j]? := by
  rw [wipe_get, if_neg (fun z => h z.1)]
theorem wipe_eq {σ σ2 : L2.St} {vs ws : List Nat} (hs : ∀ j ∈ ws, j ∈ vs) (hl : σ2.length = (wipe σ vs).length) (h : ∀ j, j ∉ ws → σ2[j]? = (wipe σ vs)[j]?) : wipe σ2 vs = wipe σ vs := by
  apply List.ext_getElem?
  intro j
  rw [wipe_get vs σ2, wipe_get vs σ]
  rw [wipe_length] at hl
  rw [hl]
  by_cases hj : j ∈ vs ∧ j < σ.length
  · rw [if_pos hj, if_pos hj]
  · rw [if_neg hj, if_neg hj]
    by_cases hw : j ∈ ws
    · have hn : ¬ j < σ.length := fun z => hj ⟨hs j hw, z⟩
      rw [List.getElem?_eq_none (by omega), List.getElem?_eq_none (by omega)]
    · rw [h j hw, wipe_get, if_neg hj]
/-- a thing that is no data and not own is changed -/
theorem To.touch {F H F1 H1 : Hp} {σ : L2.St} {τ τ1 : List Cell} {p : Addr} {o : HO} (t : To K F H σ τ F1 H1 τ1) (h : Fr H p) (h1 : F1 p = none) (n : ¬ IsOwn τ1 p) (ht : LamX.Tabs TB.T H1 → LamX.Tabs TB.T (upd H1 p o)) : To K F H σ τ F1 (upd H1 p o) τ1 := by
  have nt1 : LamX.Tabs TB.T H1 → LamX.Tabs TB.T (upd H1 p o) := ht
  refine ⟨⟨t.ext.f, t.ext.new, fun a u e z nt => ?_, fun a e => ?_, fun z => ⟨nt1 (t.ext.tabs z).1, (t.ext.tabs z).2⟩⟩, t.grow, ⟨⟨nt1 t.ok.tabs.1, t.ok.tabs.2⟩, fun a u e => ?_, t.ok.len, t.ok.slot, fun i c e => (t.ok.own i c e).move (Same.refl _) fun a f => ?_, t.ok.inj⟩⟩
  · rw [upd_ne (fr_ne e nt h)]
    exact t.ext.keep a u e z nt
  · by_cases q : a = p
    · subst q; exact h
    · exact t.ext.there a fun o' e' => e o' (by rw [upd_ne q]; exact e')
  · rw [upd_ne (ne_of_none e h1)]
    exact t.ok.sub a u e
  · refine ⟨((t.ok.own i c e).has f).1, fun u hu _ => ?_⟩
    rw [upd_ne (fun z => n ⟨i, c, e, by rw [← z]; exact f⟩)]
    exact hu
/-- .. becomes data -/
theorem To.freeze {F H F1 H1 : Hp} {σ : L2.St} {τ τ1 : List Cell} {p : Addr} {o : HO} (t : To K F H σ τ F1 H1 τ1) (h : Fr H p) (h1 : F1 p = none) (h2 : H1 p = some o) (n : ¬ IsOwn τ1 p) (nt : NT o := by intro ps z; cases z) : To K F H σ τ (upd F1 p o) H1 τ1 := by
  have s : Same F1 (upd F1 p o) := same_upd h1
  refine ⟨⟨t.ext.f.trans s, fun a u e => ?_, t.ext.keep, t.ext.there, fun z => ⟨(t.ext.tabs z).1, nt_upd nt (t.ext.tabs z).2⟩⟩, t.grow, ⟨⟨t.ok.tabs.1, nt_upd nt t.ok.tabs.2⟩, fun a u e => ?_, t.ok.len, fun i v c e1 e2 => (t.ok.slot i v c e1 e2).mono s, fun i c e => (t.ok.own i c e).move s fun a f => ⟨?_, fun u hu _ => hu⟩, t.ok.inj⟩⟩
  · by_cases q : a = p
    · subst q; exact .inr (.inl h)
    · rw [upd_ne q] at e; exact t.ext.new a u e
  · by_cases q : a = p
    · subst q; rw [upd_same] at e; rw [h2]; exact e
    · rw [upd_ne q] at e; exact t.ok.sub a u e
  · rw [upd_ne (fun z => n ⟨i, c, e, by rw [← z]; exact f⟩)]
    exact ((t.ok.own i c e).has f).1
theorem To.at {F H F1 H1 : Hp} {σ σ' : L2.St} {τ τ1 τ2 : List Cell} (t : To K F H σ τ F1 H1 τ1) (S : SOk K F1 H1 σ' τ2) (o : ∀ p, IsOwn τ2 p → IsOwn τ1 p) : To K F H σ' τ F1 H1 τ2 := ⟨t.ext, fun p h => t.grow p (o p h), S⟩
theorem To.not_own {F H F1 H1 : Hp} {σ : L2.St} {τ τ1 : List Cell} (t : To K F H σ τ F1 H1 τ1) {p : Addr} {o : HO} (n : ¬ IsOwn τ p) (h : H p = some o) (nt : NT o := by intro ps z; cases z) : ¬ IsOwn τ1 p := fun z => by
  rcases t.grow p z with z | z
  · exact n z
  · exact z _ h nt
theorem To.not_data {F H F1 H1 : Hp} {σ : L2.St} {τ τ1 : List Cell} (t : To K F H σ τ F1 H1 τ1) {p : Addr} {o : HO} (n : ¬ IsOwn τ p) (h : H p = some o) (hf : F p = none) (nt : NT o := by intro ps z; cases z) : F1 p = none := by
  cases q : F1 p with
  | none => rfl
  | some u =>
    rcases t.ext.new p u q with z | z | z
    · rw [hf] at z; cases z
    · exact (z _ h nt).elim
    · exact absurd z n
def noX : Xn → List Cell → Prop := fun _ _ => False
abbrev W0 : WX := fun _ _ _ _ => False
theorem xto0 {F H : Hp} {σ : L2.St} {τ : List Cell} : XTo K W0 F H σ τ noX := fun _ _ _ _ _ _ _ _ h => h
def wYes : TW := fun τ q _ => q true τ
theorem dt_yes : DT K W tYes wYes := ⟨fun σ H τ F Q q e S hq k _ => k true τ F H (.refl S) hq⟩
def wLc (wI : IW) (wg : GW) (wt : TW) (we : EW) (vs : List Nat) : EW := fun τ q e => wI τ (fun ds τ1 => ds.length ≤ 1000 ∧ ∃ inv : Nat → List D → List Cell → Prop, inv 0 [] (wipeD τ1 vs) ∧
  (∀ i d acc τ2, ds[i]? = some d → inv i acc τ2 → acc.length ≤ i → wg d τ2 fun τ3 => wt τ3 (fun b τ4 => (b = true → we τ4 (fun y τ5 => inv (i + 1) (acc ++ [y]) (wipeD τ5 vs)) noX) ∧ (b = false → inv (i + 1) acc (wipeD τ4 vs))) noX) ∧
  ∀ acc τ2, inv ds.length acc (wipeD τ2 vs) → acc.length ≤ ds.length → q (.lst acc) (wipeD τ2 vs)) e
theorem wipeD_idem {τ : List Cell} {vs : List Nat} : wipeD (wipeD τ vs) vs = wipeD τ vs := by
  apply List.ext_getElem?
  intro j
  rw [wipeD_get, wipeD_length, wipeD_get]
  by_cases h : j ∈ vs ∧ j < τ.length
  · rw [if_pos h, if_pos h]
  · rw [if_neg h, if_neg h]
theorem isOwn_wipe {τ : List Cell} {vs : List Nat} {p : Addr} (h : IsOwn (wipeD τ vs) p) : IsOwn τ p := by
  obtain ⟨i, c, e, f⟩ := h
  exact ⟨i, c, wipeD_has e f, f⟩
/-- the comprehension's turns: D the new list -/
theorem lc_turns {J : It} {g : TG} {tt : TT} {te : TE} {vs ws : List Nat} {wg : GW} {wt : TW} {we : EW} {σ : L2.St} {F1 H1 : Hp} {τ1 : List Cell} {ds : List D} {Qd : Hp → Prop} {Da : Addr} {inv : Nat → List D → List Cell → Prop}
    (hg : DG K ws g wg) (ht : DT K W0 tt wt) (he : DE K W0 te we) (hs : ∀ j ∈ ws, j ∈ vs) (S : SOk K F1 H1 σ τ1) (it : ItOk K F1 J ds) (hD : H1 Da = none) (hn : ds.length ≤ 1000) (h0 : inv 0 [] (wipeD τ1 vs))
    (hst : ∀ i d acc τ2, ds[i]? = some d → inv i acc τ2 → acc.length ≤ i → wg d τ2 fun τ3 => wt τ3 (fun b τ4 => (b = true → we τ4 (fun y τ5 => inv (i + 1) (acc ++ [y]) (wipeD τ5 vs)) noX) ∧ (b = false → inv (i + 1) acc (wipeD τ4 vs))) noX)
    (hd : ∀ accV acc F2 H2 τ2, To K F1 H1 (wipe σ vs) τ1 F2 H2 (wipeD τ2 vs) → F2 Da = none → ¬ IsOwn (wipeD τ2 vs) Da → H2 Da = some (.lst accV) → Reps K F2 accV acc → acc.length ≤ ds.length → inv ds.length acc (wipeD τ2 vs) → Qd H2) :
    ∃ W : Nat → Nat → Hp → Prop, (∃ m, W 0 m (upd H1 Da (.lst []))) ∧ ∀ i m H, W i m H → (J.stop i H ∧ Qd H) ∨ (J.go i H ∧ ∃ Nx : Hp → Prop, (∀ H', Nx H' → ∃ m', m' < m ∧ W (i + 1) m' H') ∧ ∀ x H', J.yld i H x H' → g x (wipe σ vs) H' fun σ2 H2 => wipe σ2 vs = wipe σ vs ∧ tt σ2 H2 fun b H3 =>
    if b = true then te σ2 H3 fun y H4 => ∃ acc, H4 Da = some (.lst acc) ∧ acc.length < sizeLine ∧ Nx (upd H4 Da (.lst (acc ++ [y]))) else Nx H3) := by
  let Inv (i : Nat) (H : Hp) : Prop := ∃ accV acc F2 τ2, To K F1 H1 (wipe σ vs) τ1 F2 H (wipeD τ2 vs) ∧ F2 Da = none ∧ ¬ IsOwn (wipeD τ2 vs) Da ∧ H Da = some (.lst accV) ∧ Reps K F2 accV acc ∧ acc.length ≤ i ∧ inv i acc (wipeD τ2 vs)
  have S1 : SOk K F1 H1 (wipe σ vs) (wipeD τ1 vs) := S.wiped (wipe_length σ vs) fun j hj => wipe_ne hj
  have F1D : F1 Da = none := by
    cases q : F1 Da with
    | none => rfl
    | some u => rw [S.sub _ _ q] at hD; cases hD
  have no1 : ¬ IsOwn τ1 Da := fun z => by
    obtain ⟨_, us, e2, _⟩ := S.own.has z
    rw [hD] at e2; cases e2
  have start : Inv 0 (upd H1 Da (.lst [])) := by
    refine ⟨[], [], F1, τ1, To.touch ⟨.refl _ _ _, fun p h => .inl (isOwn_wipe h), S1⟩ (fr_none hD) F1D (fun z => no1 (isOwn_wipe z)) (tabs_new hD), F1D, fun z => no1 (isOwn_wipe z), upd_same, .nil, Nat.le_refl _, h0⟩
  refine ⟨fun i m H => m = ds.length - i ∧ i ≤ ds.length ∧ Inv i H, ⟨_, rfl, Nat.zero_le _, start⟩, ?_⟩
  rintro i m H ⟨rfl, hi, accV, acc, F2, τ2, T, fD, nD, hH, ra, la, hinv⟩
  have s12 : Same F1 F2 := T.ext.f
  by_cases hlt : i < ds.length
  · refine .inr ⟨it.go i F2 H s12 T.ok.sub hlt, Inv (i + 1), fun H' p' => ⟨ds.length - (i + 1), by omega, rfl, hlt, p'⟩, fun x H' y => ?_⟩
    obtain ⟨d, F3, ed, x3, s3, r3⟩ := it.yld i F2 H x H' s12 T.ok.sub hlt y
    have T3 : To K F2 H (wipe σ vs) (wipeD τ2 vs) F3 H' (wipeD τ2 vs) := .small T.ok x3 s3
    refine hg.run _ H' _ F3 x d _ _ T3.ok r3 (hst i d acc _ ed hinv la) fun σ4 τ4 S4 o4 a4 l4 h4 => ?_
    have ew : wipe σ4 vs = wipe σ vs := wipe_eq hs (by rw [l4]) (fun j hj => a4 j hj)
    refine ⟨ew, ?_⟩
    have T4 : To K F2 H σ4 (wipeD τ2 vs) F3 H' τ4 := T3.at S4 o4
    refine ht.run σ4 H' τ4 F3 _ _ noX S4 h4 (fun b τ5 F5 H5 t5 ⟨h5, h6⟩ => ?_) xto0
    have T5 := T4.trans t5
    have back : ∀ {F6 H6 : Hp} {τ6 : List Cell}, To K F2 H σ4 (wipeD τ2 vs) F6 H6 τ6 → To K F1 H1 (wipe σ vs) τ1 F6 H6 (wipeD τ6 vs) := fun {F6 H6 τ6} t =>
      (T.trans t).at (t.ok.wiped (by rw [← ew, wipe_length]) fun j hj => by rw [← ew]; exact wipe_ne hj) fun p h => isOwn_wipe h
    cases b with
    | false =>
      refine iteF ?_
      have n5 := T5.not_own nD hH
      refine ⟨accV, acc, F5, τ5, back T5, T5.not_data nD hH fD, fun z => n5 (isOwn_wipe z), T5.ext.keep Da _ hH nD nt_lst, ra.mono T5.ext.f, Nat.le_succ_of_le la, h6 rfl⟩
    | true =>
      refine iteT ?_
      refine he.run σ4 H5 τ5 F5 _ _ noX t5.ok (h5 rfl) (fun yv yd τ6 F6 H6 t6 r6 h7 => ?_) xto0
      have T6 := T5.trans t6
      have n6 := T6.not_own nD hH
      refine ⟨accV, T6.ext.keep Da _ hH nD nt_lst, by rw [ra.length]; exact Nat.lt_of_le_of_lt la (small1000 (by omega)), ?_⟩
      have nw : ¬ IsOwn (wipeD τ6 vs) Da := fun z => n6 (isOwn_wipe z)
      refine ⟨accV ++ [yv], acc ++ [yd], F6, τ6, (back T6).touch (fr_none hD) (T6.not_data nD hH fD) nw (tabs_lst (T6.ext.keep Da _ hH nD nt_lst)), T6.not_data nD hH fD, nw, upd_same, (ra.mono T6.ext.f).append (.cons r6 .nil), ?_, h7⟩
      rw [List.length_append, List.length_singleton]
      omega
  · have e : i = ds.length := by omega
    subst e
    exact .inl ⟨it.stop F2 H s12 T.ok.sub, hd accV acc F2 H τ2 T fD nD hH ra la hinv⟩
theorem de_lc {wi : TI} {g : TG} {tt : TT} {te : TE} {vs ws : List Nat} {wI : IW} {wg : GW} {wt : TW} {we : EW} (hi : DI K W wi wI) (hg : DG K ws g wg) (ht : DT K W0 tt wt) (he : DE K W0 te we) (hs : ∀ j ∈ ws, j ∈ vs) :
    DE K W (tLc wi g tt te vs) (wLc wI wg wt we vs) := by
  refine ⟨fun σ H τ F Q q e S hw k x => hi.run σ H τ F _ _ e S hw (fun J ds τ1 F1 H1 t1 it ⟨hn, inv, h0, hst, hd⟩ Da hD => ?_) x⟩
  refine lc_turns hg ht he hs t1.ok it hD hn h0 hst fun accV acc F2 H2 τ2 T fD nD hH ra la hinv => ?_
  refine k (.ref Da) (.lst acc) (wipeD τ2 vs) (upd F2 Da (.lst accV)) H2 ?_ (.lst upd_same (ra.mono (same_upd fD))) (hd acc τ2 hinv la)
  have T2 := T.freeze (fr_none hD) fD hH nD
  refine t1.trans (To.at (τ1 := wipeD τ2 vs) T2 ?_ fun p h => h)
  rw [← wipeD_idem]
  exact T2.ok.wiped (by rw [wipe_length]) fun j hj => (wipe_ne hj).symm
end
end L3

/-! ## statements -/
namespace L3
open PySem PySem.Spec PyProof.Rows L2
variable [TB : TabT]
section
variable {K : PySem.W.Frag} {W : WX}
structure Ret (K : PySem.W.Frag) (F H : Hp) (τ : List Cell) (F' H' : Hp) (τ' : List Cell) : Prop where
  ext : Ext τ F H F' H'
  grow : Grow τ H τ'
  sub : Same F' H'
  own : OwnOk K F' H' τ'
  inj : InjOk τ'
theorem To.ret {F H F' H' : Hp} {σ : L2.St} {τ τ' : List Cell} (t : To K F H σ τ F' H' τ') : Ret K F H τ F' H' τ' := ⟨t.ext, t.grow, t.ok.sub, t.ok.own, t.ok.inj⟩
theorem Ret.pre {F H F1 H1 F2 H2 : Hp} {σ : L2.St} {τ τ1 τ2 : List Cell} (a : To K F H σ τ F1 H1 τ1) (b : Ret K F1 H1 τ1 F2 H2 τ2) : Ret K F H τ F2 H2 τ2 :=
  ⟨a.ext.trans a.grow b.ext, .trans a.ext a.grow b.grow, b.sub, b.own, b.inj⟩
theorem To.back {F H F1 H1 : Hp} {σ : L2.St} {τ τ1 : List Cell} (t : To K F H σ τ F1 H1 τ1) {p : Addr} (h : Fr H1 p) : Fr H p := t.ext.there p h
structure Out (K : PySem.W.Frag) (W : WX) (F H : Hp) (τ : List Cell) (E : EndsD) (Dn : Ends) : Prop where
  nx : ∀ σ' τ' F' H', To K F H σ' τ F' H' τ' → E.nx τ' → Dn.nx σ' H'
  bk : ∀ σ' τ' F' H', To K F H σ' τ F' H' τ' → E.bk τ' → Dn.bk σ' H'
  ct : ∀ σ' τ' F' H', To K F H σ' τ F' H' τ' → E.ct τ' → Dn.ct σ' H'
  rt : ∀ v d τ' F' H', Ret K F H τ F' H' τ' → Rep K F' v d → E.rt d τ' → Dn.rt v H'
  ex : ∀ σ', XTo K W F H σ' τ E.ex
  rf : ∀ p k τ' F' H', Ret K F H τ F' H' τ' → CellOk K F' H' (.own p k) → (∀ a, Has (.own p k) a → Fr H a ∧ ¬ IsOwn τ' a) → E.rf k τ' → Dn.rt (.ref p) H'
  rg : ∀ p k τ' F' H', Ret K F H τ F' H' τ' → CellOk K F' H' (.own p k) → (∀ a, Has (.own p k) a → (Fr H a ∨ IsOwn τ a) ∧ ¬ IsOwn τ' a) → E.rg k τ' → Dn.rt (.ref p) H'
theorem Out.of {F H F1 H1 : Hp} {σ : L2.St} {τ τ1 : List Cell} {E : EndsD} {Dn : Ends} (o : Out K W F H τ E Dn) (t : To K F H σ τ F1 H1 τ1) : Out K W F1 H1 τ1 E Dn :=
  ⟨fun σ' τ' F' H' u q => o.nx σ' τ' F' H' (t.trans u) q, fun σ' τ' F' H' u q => o.bk σ' τ' F' H' (t.trans u) q, fun σ' τ' F' H' u q => o.ct σ' τ' F' H' (t.trans u) q,
    fun v d τ' F' H' u r q => o.rt v d τ' F' H' (u.pre t) r q, fun σ' x cls dx τ' F' H' u r q => o.ex σ' x cls dx τ' F' H' (t.trans u) r q,
    fun p k τ' F' H' u c n q => o.rf p k τ' F' H' (u.pre t) c (fun a f => ⟨t.back (n a f).1, (n a f).2⟩) q,
    fun p k τ' F' H' u c n q => o.rg p k τ' F' H' (u.pre t) c (fun a f => ⟨(n a f).1.elim (fun z => .inl (t.back z)) fun z => (t.grow a z).symm, (n a f).2⟩) q⟩
structure DS (K : PySem.W.Frag) (W : WX) (t : TS) (w : SW) : Prop where
  run : ∀ σ H τ F Dn E, SOk K F H σ τ → w E τ → Out K W F H τ E Dn → t Dn σ H
theorem Out.xto {F H : Hp} {σ : L2.St} {τ : List Cell} {E : EndsD} {Dn : Ends} (o : Out K W F H τ E Dn) : XTo K W F H σ τ E.ex := o.ex σ

def wNext : SW := fun E τ => E.nx τ
theorem ds_nil : DS K W tNext wNext := ⟨fun σ H τ F Dn E S h o => o.nx σ τ F H (.refl S) h⟩
def wSq (w u : SW) : SW := fun E τ => w { E with nx := u E } τ
theorem ds_seq {t u : TS} {w v : SW} (h : DS K W t w) (g : DS K W u v) : DS K W (tSeq t u) (wSq w v) := by
  refine ⟨fun σ H τ F Dn E S hw o => h.run σ H τ F { Dn with nx := u Dn } { E with nx := v E } S hw ?_⟩
  exact ⟨fun σ' τ' F' H' t' q => g.run σ' H' τ' F' Dn E t'.ok q (o.of t'), o.bk, o.ct, o.rt, o.ex, o.rf, o.rg⟩
def wBreak : SW := fun E τ => E.bk τ
theorem ds_break : DS K W tBreak wBreak := ⟨fun σ H τ F Dn E S h o => o.bk σ τ F H (.refl S) h⟩
def wDrop (we : EW) : SW := fun E τ => we τ (fun _ τ' => E.nx τ') E.ex
theorem ds_drop {t : TE} {w : EW} (h : DE K W t w) : DS K W (tDrop t) (wDrop w) :=
  ⟨fun σ H τ F Dn E S hw o => h.run σ H τ F _ _ E.ex S hw (fun v d τ' F' H' t' r q => o.nx σ τ' F' H' t' q) o.xto⟩
def wRet (we : EW) : SW := fun E τ => we τ E.rt E.ex
theorem ds_ret {t : TE} {w : EW} (h : DE K W t w) : DS K W (tRet t) (wRet w) :=
  ⟨fun σ H τ F Dn E S hw o => h.run σ H τ F _ _ E.ex S hw (fun v d τ' F' H' t' r q => o.rt v d τ' F' H' t'.ret r q) o.xto⟩
def wIfS (wc : TW) (w u : SW) : SW := fun E τ => wc τ (fun b τ' => (b = true → w E τ') ∧ (b = false → u E τ')) E.ex
theorem ds_if {c : TT} {t u : TS} {wc : TW} {w v : SW} (h : DT K W c wc) (g : DS K W t w) (l : DS K W u v) : DS K W (tIfS c t u) (wIfS wc w v) := by
  refine ⟨fun σ H τ F Dn E S hw o => h.run σ H τ F _ _ E.ex S hw (fun b τ' F' H' t' ⟨h1, h2⟩ => ?_) o.xto⟩
  cases b with
  | true => exact iteT (g.run σ H' τ' F' Dn E t'.ok (h1 rfl) (o.of t'))
  | false => exact iteF (l.run σ H' τ' F' Dn E t'.ok (h2 rfl) (o.of t'))
def wAsg (we : EW) (wg : GW) : SW := fun E τ => we τ (fun d τ' => wg d τ' E.nx) E.ex
theorem ds_asg {t : TE} {w : EW} {vs : List Nat} {g : TG} {wg : GW} (h : DE K W t w) (l : DG K vs g wg) : DS K W (tAsg t g) (wAsg w wg) := by
  refine ⟨fun σ H τ F Dn E S hw o => h.run σ H τ F _ _ E.ex S hw (fun v d τ' F' H' t' r hq => ?_) o.xto⟩
  refine l.run σ H' τ' F' v d _ _ t'.ok r hq fun σ2 τ2 S2 o2 _ _ q => ?_
  exact o.nx σ2 τ2 F' H' (t'.at S2 o2) q
/-- a, b = e1, e2 -/
def wPar (i j : Nat) (wa : AW) : SW := fun E τ => wa τ (fun ds τ' => ∃ d d', ds = [d, d'] ∧ E.nx ((τ'.set i (.dat d)).set j (.dat d'))) E.ex
theorem ds_par {i j : Nat} {t : TA} {w : AW} (h : DA K W t w) : DS K W (tPar i j t) (wPar i j w) := by
  refine ⟨fun σ H τ F Dn E S hw o => h.run σ H τ F _ _ E.ex S hw (fun vs ds τ' F' H' t' r ⟨d, d', e, hq⟩ => ?_) o.xto⟩
  subst e
  obtain ⟨v, v', rfl, r1, r2⟩ := r.two
  refine ⟨v, v', rfl, ?_⟩
  refine o.nx _ _ F' H' (t'.at ((t'.ok.set r1).set r2) fun p h => ?_) hq
  exact isOwn_set (c := .dat d) (fun a z => z) (isOwn_set (c := .dat d') (fun a z => z) h)

/-! ### lists of the frame's own -/
theorem SOk.setCell {F H : Hp} {σ : L2.St} {τ : List Cell} {i : Nat} {v : V} {c : Cell} (S : SOk K F H σ τ) (co : CellOk K F H c) (sl : SlotOk K F (some v) c) (n : ∀ a, Has c a → ¬ IsOwn τ a) :
    SOk K F H (σ.set i (some v)) (τ.set i c) := by
  refine ⟨S.tabs, S.sub, by rw [List.length_set, List.length_set, S.len], fun j s c' h1 h2 => ?_, fun j d h => ?_, S.inj.set fun a z j d _ e f => n a z ⟨j, d, e, f⟩⟩
  · by_cases e : i = j
    · subst e
      by_cases hl : i < σ.length
      · rw [List.getElem?_set_self hl] at h1
        rw [List.getElem?_set_self (by rw [← S.len]; exact hl)] at h2
        cases h1; cases h2
        exact sl
      · rw [List.getElem?_eq_none (by rw [List.length_set]; exact Nat.le_of_not_lt hl)] at h1
        cases h1
    · rw [List.getElem?_set_ne e] at h1 h2
      exact S.slot j s c' h1 h2
  · rcases set_get h with ⟨_, rfl, _⟩ | ⟨_, h⟩
    · exact co
    · exact S.own j d h
theorem SOk.setOwn {F H : Hp} {σ : L2.St} {τ : List Cell} {i : Nat} {p : Addr} {ds : Cont} (S : SOk K F H σ τ) (co : CellOk K F H (.own p ds)) (n : ∀ a, Has (.own p ds) a → ¬ IsOwn τ a) :
    SOk K F H (σ.set i (some (.ref p))) (τ.set i (.own p ds)) := S.setCell co rfl n
theorem flat_has {k : Cont} (fl : Flat k) {p a : Addr} (h : Has (.own p k) a) : a = p := h.elim id fun z => absurd z fl.no
theorem new_not_own {F H : Hp} {σ : L2.St} {τ : List Cell} {p : Addr} (S : SOk K F H σ τ) (h : H p = none) : ¬ IsOwn τ p := fun z => by
  obtain ⟨_, us, e2, _⟩ := S.own.has z
  rw [h] at e2; cases e2
theorem new_not_data {F H : Hp} {σ : L2.St} {τ : List Cell} {p : Addr} (S : SOk K F H σ τ) (h : H p = none) : F p = none := by
  cases q : F p with
  | none => rfl
  | some u => rw [S.sub _ _ q] at h; cases h
/-- x = [..], x a list of the frame's own -/
def wLstOwn (i : Nat) (wa : AW) : SW := fun E τ => wa τ (fun ds τ' => ds.length ≤ 1000 ∧ ∀ p, E.nx (τ'.set i (.own p (.lst ds)))) E.ex
theorem grow_set {F H F' H' : Hp} {σ : L2.St} {τ τ' : List Cell} {i : Nat} {c : Cell} (t : To K F H σ τ F' H' τ') (n : ∀ a, Has c a → Fr H a) : Grow τ H (τ'.set i c) := fun q ⟨j, d, h, f⟩ => by
  rcases set_get h with ⟨_, rfl, _⟩ | ⟨_, h⟩
  · exact .inr (n q f)
  · exact t.grow q ⟨j, d, h, f⟩
theorem to_own {F H F' H' : Hp} {σ : L2.St} {τ τ' : List Cell} {i : Nat} {p : Addr} {ds : Cont} {vs : HO} (t : To K F H σ τ F' H' τ') (hp : H' p = none) (r : CRep K F' vs ds) (fl : Flat ds := by trivial) :
    To K F H (σ.set i (some (.ref p))) τ F' (upd H' p vs) (τ'.set i (.own p ds)) := by
  have nO := new_not_own t.ok hp
  have nF := new_not_data t.ok hp
  have hp0 : Fr H p := t.ext.there p (fr_none hp)
  have T2 := t.touch (o := vs) hp0 nF nO (tabs_new hp)
  exact ⟨T2.ext, grow_set T2 fun a f => by rw [flat_has fl f]; exact hp0, T2.ok.setOwn (.flat fl nF upd_same r) fun a f => by rw [flat_has fl f]; exact nO⟩
theorem ds_lstOwn {i : Nat} {t : TA} {w : AW} (h : DA K W t w) : DS K W (tAsg (tLst t) (gName i)) (wLstOwn i w) := by
  refine ⟨fun σ H τ F Dn E S hw o => h.run σ H τ F _ _ E.ex S hw (fun vs ds τ' F' H' t' r ⟨hl, hq⟩ => ?_) o.xto⟩
  refine ⟨by rw [r.length]; exact Nat.le_of_lt (small1000 hl), fun p hp => ?_⟩
  exact o.nx _ _ F' _ (to_own t' hp (.lst r)) (hq p)
/-- what stands in an own list is changed -/
theorem to_change {F H F' H' : Hp} {σ : L2.St} {τ τ' : List Cell} {i : Nat} {p : Addr} {ds es : Cont} {vs : HO} (t : To K F H σ τ F' H' τ') (h : τ'[i]? = some (.own p ds)) (r : CRep K F' vs es) (fl : Flat ds := by trivial) (fl' : Flat es := by trivial) :
    To K F H σ τ F' (upd H' p vs) (τ'.set i (.own p es)) := by
  have hi : i < τ'.length := (List.getElem?_eq_some_iff.mp h).1
  have own1 : IsOwn τ' p := isOwn_at h
  obtain ⟨hF, us, hH, hR, _⟩ := t.ok.own i _ h
  have nt1 : LamX.Tabs TB.T H' → LamX.Tabs TB.T (upd H' p vs) := tabs_crep hH hR
  refine ⟨⟨t.ext.f, t.ext.new, fun a u e z nt => ?_, fun a e => ?_, fun z => ⟨nt1 (t.ext.tabs z).1, (t.ext.tabs z).2⟩⟩, fun q ⟨j, c, e, f⟩ => ?_, ⟨⟨nt1 t.ok.tabs.1, t.ok.tabs.2⟩, fun a u e => ?_, by rw [List.length_set]; exact t.ok.len, fun j s c h1 h2 => ?_, fun j c e => ?_, t.ok.inj.set fun a f j d nj e f2 => ?_⟩⟩
  · by_cases q : a = p
    · subst q
      rcases t.grow a own1 with z' | z'
      · exact absurd z' z
      · exact (z' _ e nt).elim
    · rw [upd_ne q]; exact t.ext.keep a u e z nt
  · by_cases q : a = p
    · subst q; exact (e _ upd_same r.nt).elim
    · exact t.ext.there a fun o' e' => e o' (by rw [upd_ne q]; exact e')
  · rcases set_get e with ⟨_, rfl, _⟩ | ⟨_, e⟩
    · rw [flat_has fl' f]; exact t.grow _ own1
    · exact t.grow q ⟨j, c, e, f⟩
  · rw [upd_ne (fun z => by rw [z, hF] at e; cases e)]
    exact t.ok.sub a u e
  · rcases set_get h2 with ⟨rfl, rfl, _⟩ | ⟨_, h2⟩
    · exact (show s = some (.ref p) from t.ok.slot j s _ h1 h)
    · exact t.ok.slot j s c h1 h2
  · rcases set_get e with ⟨rfl, rfl, _⟩ | ⟨n, e⟩
    · exact .flat fl' hF upd_same r
    · refine (t.ok.own j c e).move (Same.refl _) fun a f => ⟨((t.ok.own j c e).has f).1, fun u hu _ => ?_⟩
      rw [upd_ne (fun z => n (t.ok.inj j i c _ a e h f (.inl z)))]
      exact hu
  · have f := flat_has fl' f
    subst f
    exact nj (t.ok.inj j i d _ a e h f2 (.inl rfl))
theorem own_at {F H : Hp} {σ : L2.St} {τ : List Cell} {i : Nat} {p : Addr} {ds : Cont} (S : SOk K F H σ τ) (h : τ[i]? = some (.own p ds)) : σ[i]? = some (some (.ref p)) ∧ F p = none ∧ ∃ vs, H p = some vs ∧ CRep K F vs ds := by
  have hi : i < σ.length := by rw [S.len]; exact (List.getElem?_eq_some_iff.mp h).1
  have e : σ[i] = some (.ref p) := S.slot i σ[i] _ (List.getElem?_eq_getElem hi) h
  obtain ⟨h1, vs, h2, h3, _⟩ := S.own i _ h
  exact ⟨by rw [List.getElem?_eq_getElem hi, e], h1, vs, h2, h3⟩
theorem own_lst {F H : Hp} {σ : L2.St} {τ : List Cell} {i : Nat} {p : Addr} {ds : List D} (S : SOk K F H σ τ) (h : τ[i]? = some (.own p (.lst ds))) : σ[i]? = some (some (.ref p)) ∧ F p = none ∧ ∃ vs, H p = some (.lst vs) ∧ Reps K F vs ds := by
  obtain ⟨h1, h2, o, h3, h4⟩ := own_at S h
  cases h4 with
  | @lst vs _ r => exact ⟨h1, h2, vs, h3, r⟩
/-- x.append(e), x an own list: as a statement -/
def wAppend (i : Nat) (wa : AW) : SW := fun E τ => (∃ p es, τ[i]? = some (.own p (.lst es))) ∧ wa τ (fun ds τ' => ∃ p es d, ds = [d] ∧ τ'[i]? = some (.own p (.lst es)) ∧ es.length < 1000 ∧ E.nx (τ'.set i (.own p (.lst (es ++ [d]))))) E.ex
theorem ds_append {i : Nat} {t : TA} {w : AW} (h : DA K W t w) : DS K W (tDrop (tBM K "list" rAppend (tVar i) t)) (wAppend i w) := by
  refine ⟨fun σ H τ F Dn E S ⟨⟨p, es, e0⟩, hw⟩ o => ?_⟩
  obtain ⟨s0, _, vs0, h0, _⟩ := own_lst S e0
  refine ⟨.ref p, s0, .inl ⟨rfl, vs0, .inl (.inl h0)⟩, ?_⟩
  refine h.run σ H τ F _ _ E.ex S hw (fun vs ds τ' F' H' t' r ⟨p', es', d, ed, e1, hl, hq⟩ => ?_) o.xto
  subst ed
  obtain ⟨v, rfl, r1⟩ := r.one
  obtain ⟨s1, _, vs1, h1, r2⟩ := own_lst t'.ok e1
  rw [s0] at s1
  cases s1
  refine ⟨p, vs1, v, rfl, rfl, h1, by rw [r2.length]; exact small1000 (Nat.le_of_lt hl), ?_⟩
  exact o.nx σ _ F' _ (to_change t' e1 (.lst (r2.append (.cons r1 .nil)))) hq
/-- x[k] = e, x an own list -/
def wSetOwn (i : Nat) (we wk : EW) : SW := fun E τ => we τ (fun d τ1 => (∃ p es, τ1[i]? = some (.own p (.lst es))) ∧ wk τ1 (fun k τ2 => ∃ p es n j, τ2[i]? = some (.own p (.lst es)) ∧ k = .int n ∧ ixN es.length n = some j ∧ E.nx (τ2.set i (.own p (.lst (es.set j d))))) E.ex) E.ex
theorem ds_setOwn {i : Nat} {t u : TE} {w v : EW} (h : DE K W t w) (g : DE K W u v) : DS K W (tAsg t (gSub (tVar i) u rSetL)) (wSetOwn i w v) := by
  refine ⟨fun σ H τ F Dn E S hw o => h.run σ H τ F _ _ E.ex S hw (fun x d τ1 F1 H1 t1 r1 ⟨⟨p, es, e0⟩, h1⟩ => ?_) o.xto⟩
  obtain ⟨s0, _, vs0, h0, _⟩ := own_lst t1.ok e0
  refine ⟨.ref p, s0, ?_⟩
  refine g.run σ H1 τ1 F1 _ _ E.ex t1.ok h1 (fun y k τ2 F2 H2 t2 r2 ⟨p', es', n, j, e1, ek, ej, hq⟩ => ?_) (o.of t1).xto
  subst ek
  obtain ⟨s1, _, vs1, h2, r3⟩ := own_lst t2.ok e1
  rw [s0] at s1
  cases s1
  refine ⟨p, vs1, n, j, rfl, r2.int_of, h2, by rw [r3.length]; exact ej, ?_⟩
  exact o.nx σ _ F2 _ (to_change (t1.trans t2) e1 (.lst (Reps.set (r1.mono t2.ext.f) j r3))) hq
/-- x[k] of an own list -/
def wIxOwn (i : Nat) (wk : EW) : EW := fun τ q e => (∃ p es, τ[i]? = some (.own p (.lst es))) ∧ wk τ (fun k τ1 => ∃ p es n d, τ1[i]? = some (.own p (.lst es)) ∧ k = .int n ∧ atI es n = some d ∧ q d τ1) e
theorem de_ixOwn {i : Nat} {t : TE} {w : EW} (h : DE K W t w) : DE K W (tOp (rIx K) (tVar i) t) (wIxOwn i w) := by
  refine ⟨fun σ H τ F Q q e S ⟨⟨p, es, e0⟩, hw⟩ k x => ?_⟩
  obtain ⟨s0, _, vs0, h0, _⟩ := own_lst S e0
  refine ⟨.ref p, s0, ?_⟩
  refine h.run σ H τ F _ _ e S hw (fun y kd τ1 F1 H1 t1 r1 ⟨p', es', n, d, e1, ek, ea, hq⟩ => ?_) x
  subst ek
  obtain ⟨s1, _, vs1, h1, r2⟩ := own_lst t1.ok e1
  rw [s0] at s1
  cases s1
  obtain ⟨v, ev, rv⟩ := atI_rep r2 ea
  exact .inl ⟨p, vs1, n, v, rfl, r1.int_of, .inl (.inl h1), ev, k v d τ1 F1 H1 t1 rv hq⟩
/-- a built-in of an own list alone that keeps nothing of it: len, tuple, list .. -/
def OpPeek (K : PySem.W.Frag) (r : List V → Hp → VK → Prop) (g : List D → (D → Prop) → Prop) : Prop :=
  ∀ F H p vs ds (q : D → Prop) Q, Same F H → H p = some (.lst vs) → Reps K F vs ds → g ds q → (∀ v d F' H', Ext [] F H F' H' → Same F' H' → Rep K F' v d → q d → Q v H') → r [.ref p] H Q
def wPeek (i : Nat) (g : List D → (D → Prop) → Prop) : EW := fun τ q _ => ∃ p es, τ[i]? = some (.own p (.lst es)) ∧ g es fun d => q d τ
theorem de_peek {i : Nat} {r : List V → Hp → VK → Prop} {g : List D → (D → Prop) → Prop} (o : OpPeek K r g) : DE K W (tCB r (tCons (tVar i) tNil)) (wPeek i g) := by
  refine ⟨fun σ H τ F Q q e S ⟨p, es, e0, hg⟩ k x => ?_⟩
  obtain ⟨s0, _, vs0, h0, r0⟩ := own_lst S e0
  refine ⟨.ref p, s0, ?_⟩
  exact o F H p vs0 es _ Q S.sub h0 r0 hg fun v d F' H' x1 s1 rv hq => k v d τ F' H' (.small S x1 s1) rv hq
theorem p_len : OpPeek K (rLenS K) (fun es q => q (.int es.length)) := fun F H p vs ds q Q s h r hq k =>
  ⟨p, vs, rfl, .inl (.inl (.inl h)), k _ (.int ds.length) F H (.refl _ _ _) s (by rw [r.length]; exact .int _) hq⟩
theorem p_tupleOf : OpPeek K (rTupleOf K) (fun es q => q (.tup es)) := fun F H p vs ds q Q s h r hq k => by
  refine ⟨p, vs, rfl, .inl ⟨.inl (.inl h), fun l hl => ?_⟩⟩
  obtain ⟨x1, x2⟩ := new_ext (o := .tup vs) s hl
  exact k _ (.tup ds) _ _ x1 x2 (.tup (.inl (.inl upd_same)) (r.mono (new_same s hl))) hq
/-- in a def that hands back a list of its own -/
def wRetFr (wa : AW) : SW := fun E τ => wa τ (fun ds τ' => ds.length ≤ 1000 ∧ E.rf (.lst ds) τ') E.ex
theorem ds_retFr {t : TA} {w : AW} (h : DA K W t w) : DS K W (tRet (tLst t)) (wRetFr w) := by
  refine ⟨fun σ H τ F Dn E S hw o => h.run σ H τ F _ _ E.ex S hw (fun vs ds τ' F' H' t' r ⟨hl, hq⟩ => ?_) o.xto⟩
  refine ⟨by rw [r.length]; exact Nat.le_of_lt (small1000 hl), fun p hp => ?_⟩
  have hp0 := t'.back (fr_none hp)
  have nF := new_not_data t'.ok hp
  have nO := new_not_own t'.ok hp
  exact o.rf p (.lst ds) τ' F' _ (t'.touch hp0 nF nO (tabs_new hp)).ret (.flat trivial nF upd_same (.lst r)) (fun a f => by rw [flat_has (k := .lst ds) trivial f]; exact ⟨hp0, nO⟩) hq
/-! ### for -/
def wFor (wI : IW) (wg : GW) (wb : SW) : SW := fun E τ => wI τ (fun ds τ1 => ∃ inv : Nat → List Cell → Prop, inv 0 τ1 ∧
  (∀ i d τ2, ds[i]? = some d → inv i τ2 → wg d τ2 fun τ3 => wb { E with nx := inv (i + 1), ct := inv (i + 1), bk := E.nx } τ3) ∧ ∀ τ2, inv ds.length τ2 → E.nx τ2) E.ex
theorem ds_for {wi : TI} {g : TG} {tb : TS} {vs : List Nat} {wI : IW} {wg : GW} {wb : SW} (hi : DI K W wi wI) (hg : DG K vs g wg) (hb : DS K W tb wb) : DS K W (tFor wi g tb) (wFor wI wg wb) := by
  refine ⟨fun σ H τ F Dn E S hw o => hi.run σ H τ F _ _ E.ex S hw (fun J ds τ1 F1 H1 t1 it ⟨inv, h0, hst, hd⟩ => ?_) o.xto⟩
  have o1 := o.of t1
  refine ⟨fun i m σ2 H2 => m = ds.length - i ∧ i ≤ ds.length ∧ ∃ τ2 F2, To K F1 H1 σ2 τ1 F2 H2 τ2 ∧ inv i τ2, ⟨_, rfl, Nat.zero_le _, τ1, F1, .refl t1.ok, h0⟩, ?_⟩
  rintro i m σ2 H2 ⟨rfl, hle, τ2, F2, t2, hinv⟩
  by_cases hlt : i < ds.length
  · refine .inr ⟨it.go i F2 H2 t2.ext.f t2.ok.sub hlt, fun σ' H' => ∃ τ' F', To K F1 H1 σ' τ1 F' H' τ' ∧ inv (i + 1) τ', fun σ' H' ⟨τ', F', t', q⟩ => ⟨ds.length - (i + 1), by omega, rfl, hlt, τ', F', t', q⟩, fun x H' y => ?_⟩
    obtain ⟨d, F3, ed, x3, s3, r3⟩ := it.yld i F2 H2 x H' t2.ext.f t2.ok.sub hlt y
    have T3 : To K F1 H1 σ2 τ1 F3 H' τ2 := t2.trans (.small t2.ok x3 s3)
    refine hg.run σ2 H' τ2 F3 x d _ _ T3.ok r3 (hst i d τ2 ed hinv) fun σ4 τ4 S4 o4 _ _ h4 => ?_
    have T4 : To K F1 H1 σ4 τ1 F3 H' τ4 := T3.at S4 o4
    refine hb.run σ4 H' τ4 F3 _ _ S4 h4 ?_
    have o4 := o1.of T4
    exact ⟨fun σ' τ' F' H' u q => ⟨τ', F', T4.trans u, q⟩, fun σ' τ' F' H' u q => o4.nx σ' τ' F' H' u q, fun σ' τ' F' H' u q => ⟨τ', F', T4.trans u, q⟩, o4.rt, o4.ex, o4.rf, o4.rg⟩
  · have e : i = ds.length := by omega
    subst e
    exact .inl ⟨it.stop F2 H2 t2.ext.f t2.ok.sub, o1.nx σ2 τ2 F2 H2 t2 (hd τ2 hinv)⟩

/-! ### defs and their calls -/
abbrev FS := List Cell → (D → List Cell → Prop) → (Xn → List Cell → Prop) → Prop
/-- what stands behind a call where the own lists were handed in -/
structure CsOk (K : PySem.W.Frag) (H0 F H : Hp) (cs cs' : List Cell) : Prop where
  len : cs'.length = cs.length
  same : ∀ (i : Nat) (p : Addr) (ds : Cont), cs[i]? = some (Cell.own p ds) → ∃ ds', cs'[i]? = some (Cell.own p ds')
  own : OwnOk K F H cs'
  inj : InjOk cs'
  grow : Grow cs H0 cs'
  only : ∀ (i : Nat) (c : Cell) (a : Addr), cs'[i]? = some c → Has c a → ∃ p ds, cs[i]? = some (Cell.own p ds)
def spOf (K : PySem.W.Frag) (n : Nat) (fs : FS) : Sp := fun vs H Q E => vs.length = n ∧ ∃ F cs q e, SOk K F H (vs.map some) cs ∧ fs cs q e ∧
  (∀ v d cs' F' H', Ext cs F H F' H' → Same F' H' → CsOk K H F' H' cs cs' → Rep K F' v d → q d cs' → Q v H') ∧
  (∀ x cls dx cs' F' H', Ext cs F H F' H' → Same F' H' → CsOk K H F' H' cs cs' → XRep K F' H' cls dx x → e x cs' → E cls dx H')
/-- the own parameters are still there -/
def Keeps : List Cell → List Cell → Prop
  | [], _ => True
  | _ :: _, [] => False
  | .own p _ :: cs, c :: τ => (∃ ds', c = .own p ds') ∧ Keeps cs τ
  | .any :: cs, _ :: τ => Keeps cs τ
  | .dat _ :: cs, _ :: τ => Keeps cs τ
def ends : List Cell → List Cell → List Cell
  | [], _ => []
  | cs, [] => cs
  | .own p ds :: cs, c :: τ => c :: ends cs τ
  | .any :: cs, _ :: τ => .any :: ends cs τ
  | .dat d :: cs, _ :: τ => .dat d :: ends cs τ
theorem ends_length : ∀ (cs τ : List Cell), (ends cs τ).length = cs.length
  | [], _ => by unfold ends; rfl
  | .own p ds :: cs, c :: τ => by unfold ends; rw [List.length_cons, List.length_cons, ends_length cs τ]
  | .any :: cs, c :: τ => by unfold ends; rw [List.length_cons, List.length_cons, ends_length cs τ]
  | .dat d :: cs, c :: τ => by unfold ends; rw [List.length_cons, List.length_cons, ends_length cs τ]
  | c :: cs, [] => by cases c <;> rfl
theorem ends_own : ∀ {cs τ : List Cell} {i : Nat} {p : Addr} {ds : Cont}, Keeps cs τ → cs[i]? = some (.own p ds) → ∃ ds', (ends cs τ)[i]? = some (.own p ds') ∧ τ[i]? = some (.own p ds')
  | [], _, i, p, ds, _, h => by simp at h
  | c :: cs, [], i, q, es, k, h => k.elim
  | .own p ds :: cs, c :: τ, 0, q, es, ⟨⟨ds', e⟩, k⟩, h => by
    cases h
    subst e
    exact ⟨ds', rfl, rfl⟩
  | .any :: cs, c :: τ, 0, q, es, k, h => by cases h
  | .dat d :: cs, c :: τ, 0, q, es, k, h => by cases h
  | .own p ds :: cs, c :: τ, i + 1, q, es, ⟨_, k⟩, h => by
    obtain ⟨ds', h1, h2⟩ := ends_own (i := i) k (by simpa using h)
    exact ⟨ds', by unfold ends; simpa using h1, by simpa using h2⟩
  | .any :: cs, c :: τ, i + 1, q, es, k, h => by
    obtain ⟨ds', h1, h2⟩ := ends_own (cs := cs) (τ := τ) (i := i) k (by simpa using h)
    exact ⟨ds', by unfold ends; simpa using h1, by simpa using h2⟩
  | .dat d :: cs, c :: τ, i + 1, q, es, k, h => by
    obtain ⟨ds', h1, h2⟩ := ends_own (cs := cs) (τ := τ) (i := i) k (by simpa using h)
    exact ⟨ds', by unfold ends; simpa using h1, by simpa using h2⟩
theorem ends_has : ∀ {cs τ : List Cell} {i : Nat} {c : Cell} {a : Addr}, Keeps cs τ → (ends cs τ)[i]? = some c → Has c a → τ[i]? = some c ∧ ∃ p ds, cs[i]? = some (.own p ds)
  | [], _, i, c, a, _, h, _ => by simp [ends] at h
  | c :: cs, [], i, d, a, k, h, _ => k.elim
  | .own p ds :: cs, c :: τ, 0, q, es, _, h, _ => by
    have h : c = q := by simpa [ends] using h
    subst h
    exact ⟨rfl, p, ds, rfl⟩
  | .any :: cs, c :: τ, 0, q, es, k, h, f => by
    have h : Cell.any = q := by simpa [ends] using h
    subst h
    exact f.elim
  | .dat d :: cs, c :: τ, 0, q, es, k, h, f => by
    have h : Cell.dat d = q := by simpa [ends] using h
    subst h
    exact f.elim
  | .own p ds :: cs, c :: τ, i + 1, q, es, ⟨_, k⟩, h, f => by
    obtain ⟨h1, p', ds', h2⟩ := ends_has (i := i) k (by simpa [ends] using h) f
    exact ⟨by simpa using h1, p', ds', by simpa using h2⟩
  | .any :: cs, c :: τ, i + 1, q, es, k, h, f => by
    obtain ⟨h1, p', ds', h2⟩ := ends_has (cs := cs) (τ := τ) (i := i) k (by simpa [ends] using h) f
    exact ⟨by simpa using h1, p', ds', by simpa using h2⟩
  | .dat d :: cs, c :: τ, i + 1, q, es, k, h, f => by
    obtain ⟨h1, p', ds', h2⟩ := ends_has (cs := cs) (τ := τ) (i := i) k (by simpa [ends] using h) f
    exact ⟨by simpa using h1, p', ds', by simpa using h2⟩
theorem ends_ok : ∀ {cs τ : List Cell} {i : Nat} {c : Cell}, Keeps cs τ → (ends cs τ)[i]? = some c → c = .any ∨ (∃ d, c = .dat d) ∨ τ[i]? = some c
  | [], _, i, c, _, h => by simp [ends] at h
  | c :: cs, [], i, d, k, h => k.elim
  | .own p ds :: cs, c :: τ, 0, q, _, h => .inr (.inr (by simpa [ends] using h))
  | .any :: cs, c :: τ, 0, q, k, h => .inl (by simpa [ends] using h.symm)
  | .dat d :: cs, c :: τ, 0, q, k, h => .inr (.inl ⟨d, by simpa [ends] using h.symm⟩)
  | .own p ds :: cs, c :: τ, i + 1, q, ⟨_, k⟩, h => by
    have := ends_ok (i := i) (c := q) k (by simpa [ends] using h)
    simpa using this
  | .any :: cs, c :: τ, i + 1, q, k, h => by
    have := ends_ok (cs := cs) (τ := τ) (i := i) (c := q) k (by simpa [ends] using h)
    simpa using this
  | .dat d :: cs, c :: τ, i + 1, q, k, h => by
    have := ends_ok (cs := cs) (τ := τ) (i := i) (c := q) k (by simpa [ends] using h)
    simpa using this
theorem cs_ok {H0 F H : Hp} {cs τ : List Cell} (k : Keeps cs τ) (o : OwnOk K F H τ) (inj : InjOk τ) (g : Grow cs H0 τ) : CsOk K H0 F H cs (ends cs τ) := by
  refine ⟨ends_length cs τ, fun i p ds h => ?_, fun i c h => ?_, fun i j c d a h1 h2 f1 f2 => inj i j c d a (ends_has k h1 f1).1 (ends_has k h2 f2).1 f1 f2, fun a ⟨i, c, h, f⟩ => g a ⟨i, c, (ends_has k h f).1, f⟩, fun i c a h f => (ends_has k h f).2⟩
  · obtain ⟨ds', h1, h2⟩ := ends_own k h
    exact ⟨ds', h1⟩
  · rcases ends_ok k h with rfl | ⟨d, rfl⟩ | h
    · exact trivial
    · exact trivial
    · exact o i c h
theorem own_app {cs : List Cell} {n : Nat} {i : Nat} {c : Cell} (h : (cs ++ List.replicate n Cell.any)[i]? = some c) : c = .any ∨ cs[i]? = some c := by
  by_cases hi : i < cs.length
  · rw [List.getElem?_append_left hi] at h
    exact .inr h
  · rw [List.getElem?_append_right (Nat.le_of_not_lt hi), List.getElem?_replicate] at h
    split at h <;> cases h
    exact .inl rfl
theorem has_app {cs : List Cell} {n : Nat} {i : Nat} {c : Cell} {a : Addr} (h : (cs ++ List.replicate n Cell.any)[i]? = some c) (f : Has c a) : cs[i]? = some c := by
  rcases own_app h with rfl | h
  · exact f.elim
  · exact h
theorem isOwn_app {cs : List Cell} {n : Nat} {p : Addr} (h : IsOwn (cs ++ List.replicate n Cell.any) p) : IsOwn cs p := by
  obtain ⟨i, c, e, f⟩ := h
  exact ⟨i, c, has_app e f, f⟩
theorem OwnOk.app {F H : Hp} {cs : List Cell} {n : Nat} (o : OwnOk K F H cs) : OwnOk K F H (cs ++ List.replicate n Cell.any) := fun i c h => by
  rcases own_app h with rfl | h
  · exact trivial
  · exact o i c h
theorem InjOk.app {cs : List Cell} {n : Nat} (o : InjOk cs) : InjOk (cs ++ List.replicate n Cell.any) := fun i j c d a h1 h2 f1 f2 => o i j c d a (has_app h1 f1) (has_app h2 f2) f1 f2
theorem Grow.app {cs : List Cell} {n : Nat} {H : Hp} {τ : List Cell} (g : Grow (cs ++ List.replicate n Cell.any) H τ) : Grow cs H τ := fun a h => (g a h).imp isOwn_app id
theorem Ext.app {cs : List Cell} {n : Nat} {F H F' H' : Hp} (x : Ext (cs ++ List.replicate n Cell.any) F H F' H') : Ext cs F H F' H' := by
  refine ⟨x.f, fun a o h => ?_, fun a o h z nt => x.keep a o h (fun q => z (isOwn_app q)) nt, x.there, x.tabs⟩
  rcases x.new a o h with z | z | z
  · exact .inl z
  · exact .inr (.inl z)
  · exact .inr (.inr (isOwn_app z))
end
/-- a def, by its body -/
theorem def_ok {P : Program} {w : World} {K : PySem.W.Frag} {mg : Str → Option Value} {base : Heap} {x qual : Str} {st : Stmt} {f : Addr} {fd : FuncData} {N ps : List Str} {k : Nat} {fs : FS} {wb : SW} (Fn : Fun K x qual st f fd) (S : FnScope N ps (defScope st))
    (hw : ∀ cs q e, cs.length = ps.length → fs cs q e → wb { nx := fun τ => Keeps cs τ ∧ q .non (ends cs τ), rt := fun d τ => Keeps cs τ ∧ q d (ends cs τ), rf := fun _ _ => False, bk := fun _ => False, ct := fun _ => False, ex := fun x τ => Keeps cs τ ∧ e x (ends cs τ) } (cs ++ List.replicate (N.length - ps.length) .any)) 
    (hb : ∀ (cdv : Value) (A : Around) (outer : List Env) (s : Shared) (H : Hp) (E : XK), Room k (A.deeper (envOfC qual (defScope st) s.heap.objs.size f cdv)) → Takes (cxOf (L2.CX P w) P w K mg base N qual (defScope st) f cdv A outer s H E) (fun cls d _ H => E cls d H) →
      ∃ t, PSs (cxOf (L2.CX P w) P w K mg base N qual (defScope st) f cdv A outer s H E) (defBody st) t ∧ DS K (fun cls d _ H => E cls d H) t wb) :
    FnOk P w K mg base (L2.CX P w) (k + 1) f fd ps (spOf K ps.length fs) := by
  refine Fn.okX S (fun vs H Q E h => h.1) (fun cdv A outer s H vs Q E hr h => ?_)
  obtain ⟨t, h1, h2⟩ := hb cdv A outer s H E hr (takes_of rfl rfl rfl rfl)
  refine ⟨t, h1, ?_⟩
  obtain ⟨hl, F, cs, q, e, S0, hf, kq, ke⟩ := h
  have lcs : cs.length = ps.length := by rw [← S0.len, List.length_map]; exact hl
  have S1 : SOk K F H (L2.start N vs) (cs ++ List.replicate (N.length - ps.length) .any) := by
    unfold L2.start
    rw [hl]
    refine ⟨S0.tabs, S0.sub, by simp [lcs, hl], fun i v c e1 e2 => ?_, S0.own.app, S0.inj.app⟩
    by_cases hi : i < cs.length
    · rw [List.getElem?_append_left hi] at e2
      rw [List.getElem?_append_left (by rw [List.length_map, hl, ← lcs]; exact hi)] at e1
      exact S0.slot i v c e1 e2
    · rw [List.getElem?_append_right (Nat.le_of_not_lt hi), List.getElem?_replicate] at e2
      split at e2
      · cases e2; exact trivial
      · cases e2
  refine h2.run _ H _ F _ _ S1 (hw cs q e lcs hf) ⟨fun σ' τ' F' H' u ⟨k, hq⟩ => ?_, fun _ _ _ _ _ z => z, fun _ _ _ _ _ z => z, fun v d τ' F' H' u r ⟨k, hq⟩ => ?_, fun σ' x cls dx τ' F' H' u r ⟨k, hq⟩ => ?_, ?_, fun _ _ _ _ _ _ _ _ z => z.elim⟩
  · exact kq .non .non _ F' H' u.ext.app u.ok.sub (cs_ok k u.ok.own u.ok.inj u.grow.app) .non hq
  · exact kq v d _ F' H' u.ext.app u.sub (cs_ok k u.own u.inj u.grow.app) r hq
  · exact ke x cls dx _ F' H' u.ext.app u.ok.sub (cs_ok k u.ok.own u.ok.inj u.grow.app) r hq
  · exact fun _ _ _ _ _ _ _ _ z => False.elim z
/-! .. one that hands back a new list, which nobody else knows -/
abbrev FSF := List Cell → (Cont → List Cell → Prop) → (Xn → List Cell → Prop) → Prop
def spFr (K : PySem.W.Frag) (n : Nat) (fs : FSF) : Sp := fun vs H Q E => vs.length = n ∧ ∃ F cs q e, SOk K F H (vs.map some) cs ∧ fs cs q e ∧
  (∀ p k cs' F' H', Ext cs F H F' H' → Same F' H' → CsOk K H F' H' cs cs' → CellOk K F' H' (.own p k) → (∀ a, Has (.own p k) a → Fr H a ∧ ¬ IsOwn cs' a) → q k cs' → Q (.ref p) H') ∧
  (∀ x cls dx cs' F' H', Ext cs F H F' H' → Same F' H' → CsOk K H F' H' cs cs' → XRep K F' H' cls dx x → e x cs' → E cls dx H')
theorem s_ok {K : PySem.W.Frag} {F H : Hp} {vs : List V} {cs : List Cell} {N ps : List Str} (S0 : SOk K F H (vs.map some) cs) (hl : vs.length = ps.length) : cs.length = ps.length ∧ SOk K F H (L2.start N vs) (cs ++ List.replicate (N.length - ps.length) .any) := by
  have lcs : cs.length = ps.length := by rw [← S0.len, List.length_map]; exact hl
  refine ⟨lcs, ?_⟩
  unfold L2.start
  rw [hl]
  refine ⟨S0.tabs, S0.sub, by simp [lcs, hl], fun i v c e1 e2 => ?_, S0.own.app, S0.inj.app⟩
  by_cases hi : i < cs.length
  · rw [List.getElem?_append_left hi] at e2
    rw [List.getElem?_append_left (by rw [List.length_map, hl, ← lcs]; exact hi)] at e1
    exact S0.slot i v c e1 e2
  · rw [List.getElem?_append_right (Nat.le_of_not_lt hi), List.getElem?_replicate] at e2
    split at e2
    · cases e2; exact trivial
    · cases e2
theorem def_okFr {P : Program} {w : World} {K : PySem.W.Frag} {mg : Str → Option Value} {base : Heap} {x qual : Str} {st : Stmt} {f : Addr} {fd : FuncData} {N ps : List Str} {k : Nat} {fs : FSF} {wb : SW} (Fn : Fun K x qual st f fd) (S : FnScope N ps (defScope st))
    (hw : ∀ cs q e, cs.length = ps.length → fs cs q e → wb { nx := fun _ => False, rt := fun _ _ => False, rf := fun ds τ => Keeps cs τ ∧ q ds (ends cs τ), bk := fun _ => False, ct := fun _ => False, ex := fun x τ => Keeps cs τ ∧ e x (ends cs τ) } (cs ++ List.replicate (N.length - ps.length) .any))
    (hb : ∀ (cdv : Value) (A : Around) (outer : List Env) (s : Shared) (H : Hp) (E : XK), Room k (A.deeper (envOfC qual (defScope st) s.heap.objs.size f cdv)) → Takes (cxOf (L2.CX P w) P w K mg base N qual (defScope st) f cdv A outer s H E) (fun cls d _ H => E cls d H) →
      ∃ t, PSs (cxOf (L2.CX P w) P w K mg base N qual (defScope st) f cdv A outer s H E) (defBody st) t ∧ DS K (fun cls d _ H => E cls d H) t wb) :
    FnOk P w K mg base (L2.CX P w) (k + 1) f fd ps (spFr K ps.length fs) := by
  refine Fn.okX S (fun vs H Q E h => h.1) (fun cdv A outer s H vs Q E hr h => ?_)
  obtain ⟨t, h1, h2⟩ := hb cdv A outer s H E hr (takes_of rfl rfl rfl rfl)
  refine ⟨t, h1, ?_⟩
  obtain ⟨hl, F, cs, q, e, S0, hf, kq, ke⟩ := h
  obtain ⟨lcs, S1⟩ := s_ok (N := N) S0 hl
  refine h2.run _ H _ F _ _ S1 (hw cs q e lcs hf) ⟨fun _ _ _ _ _ z => z.elim, fun _ _ _ _ _ z => z, fun _ _ _ _ _ z => z, fun _ _ _ _ _ _ _ z => z.elim, fun σ' x cls dx τ' F' H' u r ⟨k, hq⟩ => ?_, fun p c τ' F' H' u co n ⟨k, hq⟩ => ?_, fun _ _ _ _ _ _ _ _ z => z.elim⟩
  · exact ke x cls dx _ F' H' u.ext.app u.ok.sub (cs_ok k u.ok.own u.ok.inj u.grow.app) r hq
  · exact kq p c _ F' H' u.ext.app u.sub (cs_ok k u.own u.inj u.grow.app) co (fun a f => ⟨(n a f).1, fun ⟨i, d, e, g⟩ => (n a f).2 ⟨i, d, (ends_has k e g).1, g⟩⟩) hq
section
variable {K : PySem.W.Frag} {W : WX}
/-! ### a call -/
inductive Arg where
  | d (d : D) | o (j : Nat)
def slots : List Arg → List Nat
  | [] => []
  | .d _ :: as => slots as
  | .o j :: as => j :: slots as
def cellsOf (τ : List Cell) : List Arg → List Cell
  | [] => []
  | .d d :: as => .dat d :: cellsOf τ as
  | .o j :: as => τ.getD j .any :: cellsOf τ as
def OwnArgs (τ : List Cell) : List Arg → Prop
  | [] => True
  | .d d :: as => OwnArgs τ as
  | .o j :: as => (∃ p es, τ[j]? = some (Cell.own p es)) ∧ OwnArgs τ as
def putBack (τ : List Cell) : List Arg → List Cell → List Cell
  | .o j :: as, c :: cs => putBack (τ.set j c) as cs
  | .d _ :: as, _ :: cs => putBack τ as cs
  | _, _ => τ
inductive ArgsOk (K : PySem.W.Frag) (F : Hp) (σ : L2.St) : List V → List Arg → Prop
  | nil : ArgsOk K F σ [] []
  | d {v : V} {vs : List V} {d : D} {as : List Arg} : Rep K F v d → ArgsOk K F σ vs as → ArgsOk K F σ (v :: vs) (.d d :: as)
  | o {v : V} {vs : List V} {j : Nat} {as : List Arg} : σ[j]? = some (some v) → ArgsOk K F σ vs as → ArgsOk K F σ (v :: vs) (.o j :: as)
theorem ArgsOk.mono {F F' : Hp} {σ : L2.St} (s : Same F F') : ∀ {vs : List V} {as : List Arg}, ArgsOk K F σ vs as → ArgsOk K F' σ vs as
  | _, _, .nil => .nil
  | _, _, .d r t => .d (r.mono s) (ArgsOk.mono s t)
  | _, _, .o e t => .o e (ArgsOk.mono s t)
theorem ArgsOk.length {F : Hp} {σ : L2.St} : ∀ {vs : List V} {as : List Arg}, ArgsOk K F σ vs as → vs.length = as.length
  | _, _, .nil => rfl
  | _, _, .d r t => by rw [List.length_cons, List.length_cons, ArgsOk.length t]
  | _, _, .o e t => by rw [List.length_cons, List.length_cons, ArgsOk.length t]
theorem cellsOf_length (τ : List Cell) : ∀ as, (cellsOf τ as).length = as.length
  | [] => rfl
  | .d d :: as => by unfold cellsOf; rw [List.length_cons, List.length_cons, cellsOf_length τ as]
  | .o d :: as => by unfold cellsOf; rw [List.length_cons, List.length_cons, cellsOf_length τ as]
theorem cellsOf_any {τ : List Cell} : ∀ {as : List Arg} {k : Nat} {c : Cell}, (cellsOf τ as)[k]? = some c → c = .any ∨ (∃ d, c = .dat d) ∨ ∃ j, as[k]? = some (.o j) ∧ τ[j]? = some c
  | [], k, c, h => by simp [cellsOf] at h
  | .d d :: as, 0, c, h => .inr (.inl ⟨d, by simpa [cellsOf] using h.symm⟩)
  | .o j :: as, 0, c, h => by
    have h : τ.getD j .any = c := by simpa [cellsOf] using h
    rw [List.getD_eq_getElem?_getD] at h
    cases e : τ[j]? with
    | none => rw [e] at h; exact .inl h.symm
    | some c' => rw [e] at h; exact .inr (.inr ⟨j, rfl, e.trans (congrArg some h)⟩)
  | .d d :: as, k + 1, c, h => by
    have := cellsOf_any (as := as) (k := k) (c := c) (by simpa [cellsOf] using h)
    simpa using this
  | .o d :: as, k + 1, c, h => by
    have := cellsOf_any (as := as) (k := k) (c := c) (by simpa [cellsOf] using h)
    simpa using this
theorem cellsOf_has {τ : List Cell} {as : List Arg} {k : Nat} {c : Cell} {a : Addr} (h : (cellsOf τ as)[k]? = some c) (f : Has c a) : ∃ j, as[k]? = some (.o j) ∧ τ[j]? = some c := by
  rcases cellsOf_any h with rfl | ⟨d, rfl⟩ | h
  · exact f.elim
  · exact f.elim
  · exact h
theorem mem_slots : ∀ {as : List Arg} {k j : Nat}, as[k]? = some (.o j) → j ∈ slots as
  | [], k, j, h => by simp at h
  | .d d :: as, 0, j, h => by cases h
  | .o i :: as, 0, j, h => by cases h; exact List.mem_cons_self ..
  | .d d :: as, k + 1, j, h => mem_slots (as := as) (k := k) (by simpa using h)
  | .o i :: as, k + 1, j, h => List.mem_cons_of_mem _ (mem_slots (as := as) (k := k) (by simpa using h))
theorem cellsOf_isOwn {τ : List Cell} {as : List Arg} {a : Addr} (h : IsOwn (cellsOf τ as) a) : ∃ j c, j ∈ slots as ∧ τ[j]? = some c ∧ Has c a := by
  obtain ⟨k, c, e, f⟩ := h
  obtain ⟨j, e1, e2⟩ := cellsOf_has e f
  exact ⟨j, c, mem_slots e1, e2, f⟩
theorem slots_mem : ∀ {as : List Arg} {j : Nat}, j ∈ slots as → ∃ k : Nat, as[k]? = some (Arg.o j)
  | [], j, h => by simp [slots] at h
  | .d d :: as, j, h => by
    obtain ⟨k, e⟩ := slots_mem (as := as) h
    exact ⟨k + 1, by simpa using e⟩
  | .o i :: as, j, h => by
    rcases List.mem_cons.mp h with rfl | h
    · exact ⟨0, rfl⟩
    · obtain ⟨k, e⟩ := slots_mem (as := as) h
      exact ⟨k + 1, by simpa using e⟩
theorem slot_inj : ∀ {as : List Arg} {k l j : Nat}, (slots as).Nodup → as[k]? = some (.o j) → as[l]? = some (.o j) → k = l
  | [], k, l, j, _, h, _ => by simp at h
  | .d d :: as, 0, l, j, _, h, _ => by cases h
  | .d d :: as, k, 0, j, _, _, h => by cases h
  | .d d :: as, k + 1, l + 1, j, nd, h, h' => congrArg (· + 1) (slot_inj (as := as) (k := k) (l := l) nd (by simpa using h) (by simpa using h'))
  | .o i :: as, 0, 0, j, _, _, _ => rfl
  | .o i :: as, 0, l + 1, j, nd, h, h' => by
    cases h
    exact absurd (mem_slots (as := as) (k := l) (by simpa using h')) (List.nodup_cons.mp nd).1
  | .o i :: as, k + 1, 0, j, nd, h, h' => by
    cases h'
    exact absurd (mem_slots (as := as) (k := k) (by simpa using h)) (List.nodup_cons.mp nd).1
  | .o i :: as, k + 1, l + 1, j, nd, h, h' => congrArg (· + 1) (slot_inj (as := as) (k := k) (l := l) (List.nodup_cons.mp nd).2 (by simpa using h) (by simpa using h'))
theorem putBack_out : ∀ {as : List Arg} {cs τ : List Cell} {i : Nat}, i ∉ slots as → (putBack τ as cs)[i]? = τ[i]?
  | [], cs, τ, i, _ => by cases cs <;> rfl
  | .d d :: as, [], τ, i, h => rfl
  | .o d :: as, [], τ, i, h => rfl
  | .d d :: as, c :: cs, τ, i, h => putBack_out (as := as) h
  | .o j :: as, c :: cs, τ, i, h => by
    have h' : i ≠ j ∧ i ∉ slots as := by simpa [slots] using h
    show (putBack (τ.set j c) as cs)[i]? = _
    rw [putBack_out (as := as) h'.2, List.getElem?_set_ne (Ne.symm h'.1)]
theorem putBack_length : ∀ {as : List Arg} {cs τ : List Cell}, (putBack τ as cs).length = τ.length
  | [], cs, τ => by cases cs <;> rfl
  | .d d :: as, [], τ => rfl
  | .o d :: as, [], τ => rfl
  | .d d :: as, c :: cs, τ => putBack_length (as := as)
  | .o j :: as, c :: cs, τ => by
    show (putBack (τ.set j c) as cs).length = _
    rw [putBack_length (as := as), List.length_set]
theorem putBack_in : ∀ {as : List Arg} {cs τ : List Cell} {i k : Nat} {c : Cell}, (slots as).Nodup → i < τ.length → as[k]? = some (.o i) → cs[k]? = some c → (putBack τ as cs)[i]? = some c
  | [], cs, τ, i, k, c, _, _, h, _ => by simp at h
  | .d d :: as, [], τ, i, k, c, _, _, h, h' => by simp at h'
  | .o d :: as, [], τ, i, k, c, _, _, h, h' => by simp at h'
  | .d d :: as, b :: cs, τ, i, 0, c, _, _, h, _ => by cases h
  | .d d :: as, b :: cs, τ, i, k + 1, c, nd, hi, h, h' => putBack_in (as := as) (k := k) nd hi (by simpa using h) (by simpa using h')
  | .o j :: as, b :: cs, τ, i, 0, c, nd, hi, h, h' => by
    cases h
    cases h'
    show (putBack (τ.set _ _) as cs)[_]? = _
    rw [putBack_out (List.nodup_cons.mp nd).1, List.getElem?_set_self hi]
  | .o j :: as, b :: cs, τ, i, k + 1, c, nd, hi, h, h' => putBack_in (as := as) (k := k) (List.nodup_cons.mp nd).2 (by rw [List.length_set]; exact hi) (by simpa using h) (by simpa using h')
theorem ownArgs_at {τ : List Cell} : ∀ {as : List Arg} {k j : Nat}, OwnArgs τ as → as[k]? = some (.o j) → ∃ p es, τ[j]? = some (Cell.own p es)
  | [], k, j, _, h => by simp at h
  | .d d :: as, 0, j, _, h => by cases h
  | .o i :: as, 0, j, h, e => by cases e; exact h.1
  | .d d :: as, k + 1, j, h, e => ownArgs_at (as := as) (k := k) h (by simpa using e)
  | .o i :: as, k + 1, j, h, e => ownArgs_at (as := as) (k := k) h.2 (by simpa using e)
theorem cellsOf_at {τ : List Cell} : ∀ {as : List Arg} {k j : Nat} {p : Addr} {es : Cont}, as[k]? = some (.o j) → τ[j]? = some (Cell.own p es) → (cellsOf τ as)[k]? = some (.own p es)
  | [], k, j, p, es, h, _ => by simp at h
  | .d d :: as, 0, j, p, es, h, _ => by cases h
  | .o i :: as, 0, j, p, es, h, e => by
    cases h
    show some (τ.getD _ .any) = _
    rw [List.getD_eq_getElem?_getD, e]
    rfl
  | .d d :: as, k + 1, j, p, es, h, e => by
    show (cellsOf τ as)[k]? = _
    exact cellsOf_at (as := as) (by simpa using h) e
  | .o i :: as, k + 1, j, p, es, h, e => by
    show (cellsOf τ as)[k]? = _
    exact cellsOf_at (as := as) (by simpa using h) e
/-- the cells of the arguments describe the values -/
theorem args_slot {F H : Hp} {σ : L2.St} {τ : List Cell} (S : SOk K F H σ τ) : ∀ {vs : List V} {as : List Arg}, ArgsOk K F σ vs as → ∀ (i : Nat) (s : Option V) (c : Cell), (vs.map some)[i]? = some s → (cellsOf τ as)[i]? = some c → SlotOk K F s c
  | _, _, .nil, i, s, c, h, _ => by simp at h
  | _, _, .d (v := v) r t, 0, s, c, h, h' => by
    cases h
    cases h'
    exact ⟨v, rfl, r⟩
  | _, _, .o (v := v) (j := j) e t, 0, s, c, h, h' => by
    cases h
    have h' : τ.getD j .any = c := by simpa [cellsOf] using h'
    rw [List.getD_eq_getElem?_getD] at h'
    cases q : τ[j]? with
    | none => rw [q] at h'; cases h'; exact trivial
    | some c' =>
      rw [q] at h'
      have h' : c' = c := h'
      subst h'
      exact S.slot j _ _ e q
  | _, _, .d r t, i + 1, s, c, h, h' => args_slot S t i s c (by simpa using h) (by simpa [cellsOf] using h')
  | _, _, .o e t, i + 1, s, c, h, h' => args_slot S t i s c (by simpa using h) (by simpa [cellsOf] using h')
abbrev AcW := List Cell → (List Arg → List Cell → Prop) → (Xn → List Cell → Prop) → Prop
structure DAc (K : PySem.W.Frag) (W : WX) (t : TA) (w : AcW) : Prop where
  run : ∀ σ H τ F Q q e, SOk K F H σ τ → w τ q e → (∀ vs as τ' F' H', To K F H σ τ F' H' τ' → ArgsOk K F' σ vs as → q as τ' → Q vs H') → XTo K W F H σ τ e → t σ H Q
def wcNil : AcW := fun τ q _ => q [] τ
def wcCons (we : EW) (wa : AcW) : AcW := fun τ q e => we τ (fun d τ1 => wa τ1 (fun as τ2 => q (.d d :: as) τ2) e) e
def wcOwn (j : Nat) (wa : AcW) : AcW := fun τ q e => (∃ p es, τ[j]? = some (Cell.own p es)) ∧ wa τ (fun as τ2 => q (.o j :: as) τ2) e
theorem dac_nil : DAc K W tNil wcNil := ⟨fun σ H τ F Q q e S hq k _ => k [] [] τ F H (.refl S) .nil hq⟩
theorem dac_cons {t : TE} {u : TA} {w : EW} {v : AcW} (h : DE K W t w) (g : DAc K W u v) : DAc K W (tCons t u) (wcCons w v) := by
  refine ⟨fun σ H τ F Q q e S hw k x => h.run σ H τ F _ _ e S hw (fun z d τ' F' H' t' r h1 => ?_) x⟩
  refine g.run σ H' τ' F' _ _ e t'.ok h1 (fun zs ds τ2 F2 H2 t2 r2 hq => ?_) (x.of t')
  exact k (z :: zs) (.d d :: ds) τ2 F2 H2 (t'.trans t2) (.d (r.mono t2.ext.f) r2) hq
theorem dac_own {j : Nat} {u : TA} {v : AcW} (g : DAc K W u v) : DAc K W (tCons (tVar j) u) (wcOwn j v) := by
  refine ⟨fun σ H τ F Q q e S ⟨⟨p, es, e0⟩, hw⟩ k x => ?_⟩
  obtain ⟨s0, _⟩ := own_at S e0
  refine ⟨.ref p, s0, ?_⟩
  refine g.run σ H τ F _ _ e S hw (fun zs ds τ2 F2 H2 t2 r2 hq => ?_) x
  exact k (.ref p :: zs) (.o j :: ds) τ2 F2 H2 t2 (.o s0 r2) hq
def wCall (n : Nat) (fs : FS) (wa : AcW) : EW := fun τ q e => wa τ (fun as τ' => as.length = n ∧ (slots as).Nodup ∧ OwnArgs τ' as ∧ fs (cellsOf τ' as) (fun d cs' => q d (putBack τ' as cs')) (fun x cs' => e x (putBack τ' as cs'))) e
theorem putBack_alt {H F' H' : Hp} {τ cs' : List Cell} {as : List Arg} (nd : (slots as).Nodup) (oa : OwnArgs τ as) (c : CsOk K H F' H' (cellsOf τ as) cs') (i : Nat) :
    (i ∉ slots as ∧ (putBack τ as cs')[i]? = τ[i]?) ∨ (∃ (k : Nat) (p : Addr) (ds ds' : Cont), as[k]? = some (Arg.o i) ∧ τ[i]? = some (Cell.own p ds) ∧ cs'[k]? = some (Cell.own p ds') ∧ (putBack τ as cs')[i]? = some (Cell.own p ds')) := by
  by_cases h : i ∈ slots as
  · obtain ⟨k, e⟩ := slots_mem h
    obtain ⟨p, es, e1⟩ := ownArgs_at oa e
    obtain ⟨ds', e2⟩ := c.same k p es (cellsOf_at e e1)
    exact .inr ⟨k, p, es, ds', e, e1, e2, putBack_in nd (List.getElem?_eq_some_iff.mp e1).1 e e2⟩
  · exact .inl ⟨h, putBack_out h⟩
theorem putBack_isOwn {H F' H' : Hp} {τ cs' : List Cell} {as : List Arg} (nd : (slots as).Nodup) (oa : OwnArgs τ as) (c : CsOk K H F' H' (cellsOf τ as) cs') {a : Addr} (h : IsOwn (putBack τ as cs') a) :
    (∃ i d, i ∉ slots as ∧ τ[i]? = some d ∧ Has d a) ∨ IsOwn cs' a := by
  obtain ⟨i, d, e, f⟩ := h
  rcases putBack_alt nd oa c i with ⟨n, z⟩ | ⟨k, p, ds, ds', z1, z2, z3, z4⟩
  · exact .inl ⟨i, d, n, by rw [← z]; exact e, f⟩
  · rw [e] at z4
    cases z4
    exact .inr ⟨k, _, z3, f⟩
theorem call_to {F H F' H' F0 H0 : Hp} {σ : L2.St} {τ τ0 cs' : List Cell} {as : List Arg} (t : To K F0 H0 σ τ0 F H τ) (nd : (slots as).Nodup) (oa : OwnArgs τ as) (x : Ext (cellsOf τ as) F H F' H') (sub : Same F' H') (c : CsOk K H F' H' (cellsOf τ as) cs') :
    To K F0 H0 σ τ0 F' H' (putBack τ as cs') := by
  have alt := putBack_alt nd oa c
  have cown : ∀ {p : Addr}, IsOwn (cellsOf τ as) p → IsOwn τ p := fun {p} h => by
    obtain ⟨j, d, _, e, f⟩ := cellsOf_isOwn h
    exact ⟨j, d, e, f⟩
  -- what a cell that was not handed in has is not the call's
  have apart : ∀ {i : Nat} {d : Cell} {a : Addr}, i ∉ slots as → τ[i]? = some d → Has d a → ¬ IsOwn (cellsOf τ as) a := fun {i d a} n e f h => by
    obtain ⟨j, d', m, e', f'⟩ := cellsOf_isOwn h
    rw [t.ok.inj i j d d' a e e' f f'] at n
    exact n m
  have xt : Ext τ F H F' H' := by
    refine ⟨x.f, fun a o h => ?_, fun a o h z nt => x.keep a o h (fun q => z (cown q)) nt, x.there, x.tabs⟩
    rcases x.new a o h with z | z | z
    · exact .inl z
    · exact .inr (.inl z)
    · exact .inr (.inr (cown z))
  have gr : Grow τ H (putBack τ as cs') := fun a h => by
    rcases putBack_isOwn nd oa c h with ⟨i, d, _, e, f⟩ | h
    · exact .inl ⟨i, d, e, f⟩
    · exact (c.grow a h).imp cown id
  refine To.trans t (σ' := σ) ⟨xt, gr, ⟨xt.tabs t.ok.tabs, sub, by rw [putBack_length]; exact t.ok.len, fun i s cc h1 h2 => ?_, fun i d h => ?_, fun i j d e a h1 h2 f1 f2 => ?_⟩⟩
  · rcases alt i with ⟨_, e⟩ | ⟨k, q, ds, ds2, _, e1, _, e2⟩
    · rw [e] at h2
      exact (t.ok.slot i s cc h1 h2).mono x.f
    · rw [h2] at e2
      cases e2
      exact (show s = some (.ref q) from t.ok.slot i s _ h1 e1)
  · rcases alt i with ⟨hn, e⟩ | ⟨k, q, ds1, ds2, _, e1, e2, e3⟩
    · rw [e] at h
      refine (t.ok.own i d h).move x.f fun a f => ?_
      obtain ⟨g1, u, g2, g3⟩ := (t.ok.own i d h).has f
      have na := apart hn h f
      refine ⟨?_, fun o ho nt => x.keep a o ho na nt⟩
      cases q : F' a with
      | none => rfl
      | some o =>
        rcases x.new a o q with z | z | z
        · rw [g1] at z; cases z
        · exact (z _ g2 g3).elim
        · exact absurd z na
    · rw [h] at e3
      cases e3
      exact c.own k _ e2
  · have cross : ∀ {i j : Nat} {d e : Cell}, i ∉ slots as → τ[i]? = some d → Has d a → ∀ k, cs'[k]? = some e → Has e a → False := fun {i j d e} n z f k z' f' => by
      rcases c.grow a ⟨k, e, z', f'⟩ with y | y
      · exact apart n z f y
      · obtain ⟨_, u, g2, g3⟩ := (t.ok.own i d z).has f
        exact y u g2 g3
    rcases alt i with ⟨n1, z1⟩ | ⟨k1, p1, ds1, ds1', y1, y2, y3, y4⟩
    · rw [z1] at h1
      rcases alt j with ⟨n2, z2⟩ | ⟨k2, p2, ds2, ds2', x1, x2, x3, x4⟩
      · rw [z2] at h2
        exact t.ok.inj i j d e a h1 h2 f1 f2
      · rw [h2] at x4
        cases x4
        exact (cross (j := j) n1 h1 f1 k2 x3 f2).elim
    · rw [h1] at y4
      cases y4
      rcases alt j with ⟨n2, z2⟩ | ⟨k2, p2, ds2, ds2', x1, x2, x3, x4⟩
      · rw [z2] at h2
        exact (cross (j := i) n2 h2 f2 k1 y3 f1).elim
      · rw [h2] at x4
        cases x4
        have := c.inj k1 k2 _ _ a y3 x3 f1 f2
        subst this
        rw [y1] at x1
        cases x1
        rfl
theorem pre_call {F H F0 H0 : Hp} {σ : L2.St} {τ τ0 : List Cell} {vs : List V} {as : List Arg} (t : To K F0 H0 σ τ0 F H τ) (a : ArgsOk K F σ vs as) (nd : (slots as).Nodup) : SOk K F H (vs.map some) (cellsOf τ as) := by
  refine ⟨t.ok.tabs, t.ok.sub, by rw [List.length_map, cellsOf_length, a.length], args_slot t.ok a, fun i c e0 => ?_, fun i j c d x e1 e2 f1 f2 => ?_⟩
  · rcases cellsOf_any e0 with rfl | ⟨d, rfl⟩ | ⟨j, _, e2⟩
    · exact trivial
    · exact trivial
    · exact t.ok.own j c e2
  · obtain ⟨k1, a1, b1⟩ := cellsOf_has e1 f1
    obtain ⟨k2, a2, b2⟩ := cellsOf_has e2 f2
    have ek := t.ok.inj k1 k2 c d x b1 b2 f1 f2
    subst ek
    exact slot_inj nd a1 a2
theorem de_call {n : Nat} {fs : FS} {t : TA} {w : AcW} (h : DAc K W t w) : DE K W (tCallS (spOf K n fs) (L2.WE W) t) (wCall n fs w) := by
  refine ⟨fun σ H τ F Q q e S hw k x => h.run σ H τ F _ _ e S hw (fun vs as τ' F' H' t' a ⟨hl, nd, oa, hf⟩ => ?_) x⟩
  exact ⟨by rw [a.length]; exact hl, F', cellsOf τ' as, _, _, pre_call t' a nd, hf, fun v d cs' F2 H2 x2 s2 c2 r2 hq => k v d _ F2 H2 (call_to t' nd oa x2 s2 c2) r2 hq, fun y cls dx cs' F2 H2 x2 s2 c2 r2 hq => x y cls dx _ F2 H2 (call_to t' nd oa x2 s2 c2) r2 hq⟩
/-- x = f(..), f hands back a new list: it becomes an own one -/
def wCallOwn (i n : Nat) (fs : FSF) (wa : AcW) : SW := fun E τ => wa τ (fun as τ' => as.length = n ∧ (slots as).Nodup ∧ OwnArgs τ' as ∧ fs (cellsOf τ' as) (fun k cs' => ∀ p, E.nx ((putBack τ' as cs').set i (.own p k))) (fun x cs' => E.ex x (putBack τ' as cs'))) E.ex
theorem ds_callOwn {i n : Nat} {fs : FSF} {t : TA} {w : AcW} (h : DAc K W t w) : DS K W (tAsg (tCallS (spFr K n fs) (L2.WE W) t) (gName i)) (wCallOwn i n fs w) := by
  refine ⟨fun σ H τ F Dn E S hw o => h.run σ H τ F _ _ E.ex S hw (fun vs as τ' F' H' t' a ⟨hl, nd, oa, hf⟩ => ?_) o.xto⟩
  refine ⟨by rw [a.length]; exact hl, F', cellsOf τ' as, _, _, pre_call t' a nd, hf, fun p k cs' F2 H2 x2 s2 c2 ck nk hq => ?_, fun y cls dx cs' F2 H2 x2 s2 c2 r2 hq => ?_⟩
  · have T := call_to t' nd oa x2 s2 c2
    have nO : ∀ b, Has (.own p k) b → ¬ IsOwn (putBack τ' as cs') b := fun b f z => by
      rcases putBack_isOwn nd oa c2 z with ⟨j, d, _, e, g⟩ | z
      · obtain ⟨_, u, g2, g3⟩ := (t'.ok.own j d e).has g
        exact (nk b f).1 u g2 g3
      · exact (nk b f).2 z
    exact o.nx _ _ F2 H2 ⟨T.ext, grow_set T fun b f => t'.back (nk b f).1, T.ok.setOwn ck nO⟩ (hq p)
  · exact o.ex σ y cls dx _ F2 H2 (call_to t' nd oa x2 s2 c2) r2 hq
end
end L3

/-! ## more operations -/
namespace L3
open PySem PySem.Spec PyProof.Rows L2
variable [TB : TabT]
section
variable {K : PySem.W.Frag} {W : WX}
theorem de_ty {n : String} : DE K W (tC (.ty n)) (wC (.ty n)) := de_c fun _ => .ty n
def wNeg (we : EW) : EW := fun τ q e => we τ (fun d τ' => ∃ i, d = .int i ∧ q (.int (-i)) τ') e
theorem de_neg {t : TE} {w : EW} (h : DE K W t w) : DE K W (tUn (rU fun i => .int (-i)) t) (wNeg w) := by
  refine ⟨fun σ H τ F Q q e S hw k x => h.run σ H τ F _ _ e S hw (fun v d τ' F' H' t' r ⟨i, e', hq⟩ => ?_) x⟩
  subst e'
  exact ⟨i, r.int_of, k _ _ τ' F' H' t' (.int _) hq⟩
/-- plain things, compared by their values -/
def scD : D → Option V
  | .non => some .non | .bl b => some (.bl b) | .int i => some (.int i) | .str x => some (.str x) | _ => none
theorem sc_of {F : Hp} {v u : V} {d : D} (r : Rep K F v d) (h : scD d = some u) : v = u := by
  cases r <;> cases h <;> rfl
def gEq : D → D → (D → Prop) → Prop := fun x y q => ∃ v u, scD x = some v ∧ scD y = some u ∧ scal v u = true ∧ q (.bl (decide (v = u)))
def gNe : D → D → (D → Prop) → Prop := fun x y q => ∃ v u, scD x = some v ∧ scD y = some u ∧ scal v u = true ∧ q (.bl (!decide (v = u)))
theorem o_eq : Op2 K rEq gEq := by
  rintro F H x y d1 d2 q Q s r1 r2 ⟨v, u, e1, e2, hs, hq⟩ k
  rw [sc_of r1 e1, sc_of r2 e2]
  exact ⟨hs, k _ _ F H (.refl _ _ _) s (.bl _) hq⟩
theorem o_ne : Op2 K rNe gNe := by
  rintro F H x y d1 d2 q Q s r1 r2 ⟨v, u, e1, e2, hs, hq⟩ k
  rw [sc_of r1 e1, sc_of r2 e2]
  exact ⟨hs, k _ _ F H (.refl _ _ _) s (.bl _) hq⟩
def isNonD : D → Bool | .non => true | _ => false
theorem non_iff {F : Hp} {v : V} {d : D} (r : Rep K F v d) : decide (v = .non) = isNonD d := by
  cases r <;> simp [isNonD]
def rIsN : R2 := fun x y H Q => y = .non ∧ Q (.bl (decide (x = .non))) H
def rNotN : R2 := fun x y H Q => y = .non ∧ Q (.bl (!decide (x = .non))) H
def gIsN : D → D → (D → Prop) → Prop := fun x y q => y = .non ∧ q (.bl (isNonD x))
def gNotN : D → D → (D → Prop) → Prop := fun x y q => y = .non ∧ q (.bl (!isNonD x))
theorem o_isN : Op2 K rIsN gIsN := by
  rintro F H x y d1 d2 q Q s r1 r2 ⟨rfl, hq⟩ k
  cases r2
  exact ⟨rfl, by rw [non_iff r1]; exact k _ _ F H (.refl _ _ _) s (.bl _) hq⟩
theorem o_notN : Op2 K rNotN gNotN := by
  rintro F H x y d1 d2 q Q s r1 r2 ⟨rfl, hq⟩ k
  cases r2
  exact ⟨rfl, by rw [non_iff r1]; exact k _ _ F H (.refl _ _ _) s (.bl _) hq⟩
mutual
def toPy : D → Option PyData
  | .non => some .none | .bl b => some (.bool b) | .int i => some (.int i) | .str x => some (.str x)
  | .tup ds => (toPys ds).map .tuple | .lst ds => (toPys ds).map .list | .fl ds => (toPys ds).map .list | _ => none
def toPys : List D → Option (List PyData)
  | [] => some []
  | d :: ds => (toPy d).bind fun p => (toPys ds).map fun ps => p :: ps
end
mutual
theorem dp_of {F : Hp} : ∀ {d : D} {v : V} {p : PyData}, Rep K F v d → toPy d = some p → Dp K F v p
  | .non, _, _, r, h => by cases r; cases h; exact .non
  | .bl b, _, _, r, h => by cases r; cases h; exact .bl b
  | .int b, _, _, r, h => by cases r; cases h; exact .int b
  | .str b, _, _, r, h => by cases r; cases h; exact .str b
  | .tup ds, _, p, r, h => by
    cases r with
    | tup hs r =>
      have h : (toPys ds).map PyData.tuple = some p := by rw [← h]; rfl
      cases e : toPys ds with
      | none => rw [e] at h; cases h
      | some ps => rw [e] at h; cases h; exact .tup hs (dps_of r e)
  | .lst ds, _, p, r, h => by
    cases r with
    | lst hs r =>
      have h : (toPys ds).map PyData.list = some p := by rw [← h]; rfl
      cases e : toPys ds with
      | none => rw [e] at h; cases h
      | some ps => rw [e] at h; cases h; exact .lst (.inl (.inl hs)) (dps_of r e)
  | .fl ds, _, p, r, h => by
    cases r with
    | fl hs r =>
      have h : (toPys ds).map PyData.list = some p := by rw [← h]; rfl
      cases e : toPys ds with
      | none => rw [e] at h; cases h
      | some ps => rw [e] at h; cases h; exact .lst hs (dps_of r e)
  | .ty n, _, _, r, h => by cases h
  | .oth n, _, _, r, h => by cases h
  | .ins c n, _, _, r, h => by cases h
  | .adr q, _, _, r, h => by cases h
  | .dc _, _, _, r, h => by cases h
  | .dtc _, _, _, r, h => by cases h
theorem dps_of {F : Hp} : ∀ {ds : List D} {vs : List V} {ps : List PyData}, Reps K F vs ds → toPys ds = some ps → DpAll K F vs ps
  | [], _, _, r, h => by cases r; cases h; exact .nil
  | d :: ds, _, ps, r, h => by
    cases r with
    | cons r1 r2 =>
      have h : ((toPy d).bind fun p => (toPys ds).map fun ps => p :: ps) = some ps := by rw [← h]; rfl
      cases e : toPy d with
      | none => rw [e] at h; cases h
      | some p =>
        rw [e] at h
        cases e2 : toPys ds with
        | none => rw [e2] at h; cases h
        | some qs => rw [e2] at h; cases h; exact .cons (dp_of r1 e) (dps_of r2 e2)
end
mutual
theorem Dp_mono {F F' : Hp} (s : Same F F') : ∀ {v : V} {p : PyData}, Dp K F v p → Dp K F' v p
  | _, _, .non => .non
  | _, _, .bl b => .bl b
  | _, _, .int i => .int i
  | _, _, .str x => .str x
  | _, _, .tup h r => .tup (SqT_mono s h) (DpAll_mono s r)
  | _, _, .lst h r => .lst (s.seq h) (DpAll_mono s r)
theorem DpAll_mono {F F' : Hp} (s : Same F F') : ∀ {vs : List V} {ps : List PyData}, DpAll K F vs ps → DpAll K F' vs ps
  | _, _, .nil => .nil
  | _, _, .cons h r => .cons (Dp_mono s h) (DpAll_mono s r)
end
/-- things of any depth, compared by their values -/
def gEqD : D → D → (D → Prop) → Prop := fun x y q => ∃ v u, toPy x = some v ∧ toPy y = some u ∧ SeqAt.shaped v = true ∧ SeqAt.shaped u = true ∧ q (.bl (PyData.eqv v u))
def gNeD : D → D → (D → Prop) → Prop := fun x y q => ∃ v u, toPy x = some v ∧ toPy y = some u ∧ SeqAt.shaped v = true ∧ SeqAt.shaped u = true ∧ q (.bl (!PyData.eqv v u))
theorem o_eqD : Op2 K (rEqD K) gEqD := by
  rintro F H x y d1 d2 q Q s r1 r2 ⟨v, u, e1, e2, h1, h2, hq⟩ k
  exact ⟨v, u, Dp_mono s (dp_of r1 e1), Dp_mono s (dp_of r2 e2), h1, h2, k _ _ F H (.refl _ _ _) s (.bl _) hq⟩
theorem o_neD : Op2 K (rNeD K) gNeD := by
  rintro F H x y d1 d2 q Q s r1 r2 ⟨v, u, e1, e2, h1, h2, hq⟩ k
  exact ⟨v, u, Dp_mono s (dp_of r1 e1), Dp_mono s (dp_of r2 e2), h1, h2, k _ _ F H (.refl _ _ _) s (.bl _) hq⟩
end
end L3

/-! ## names for the generated texts -/
namespace L3
open PySem PySem.Spec PyProof.Rows L2
variable [TB : TabT]
abbrev rSubI : R2 := rI0 fun i j => .int (i - j)
def CMulA (i j : Int) : Prop := CMul i j ∨ CMulW i j
abbrev rMulA : R2 := rI CMulA fun i j => .int (i * j)
abbrev rDivW : R2 := rI CDivW fun i j => .int (i / j)
abbrev rPowI : R2 := rI CPow fun i j => .int (i ^ j.toNat)
theorem op_mulA {X : Cx} : OpR X (binaryOp .Mult) rMulA := opI fun _ _ _ _ _ _ _ hc q => mul_int q (hc.elim (fun z => z.ok) fun z => z.ok)
abbrev gAddI := g2I fun i j => .int (i + j)
abbrev gSubI := g2I fun i j => .int (i - j)
abbrev gLtI := g2I fun i j => .bl (decide (i < j))
abbrev gLeI := g2I fun i j => .bl (decide (i ≤ j))
abbrev gGtI := g2I fun i j => .bl (decide (j < i))
abbrev gGeI := g2I fun i j => .bl (decide (j ≤ i))
abbrev gMulA := g2IC CMulA fun i j => .int (i * j)
abbrev gDivW := g2IC CDivW fun i j => .int (i / j)
abbrev gModI := g2IC (fun _ j => 0 < j) fun i j => .int (i % j)
abbrev gPowI := g2IC CPow fun i j => .int (i ^ j.toNat)
section
variable {K : PySem.W.Frag}
theorem o_mulA : Op2 K rMulA gMulA := op2IC fun _ _ _ => .int _
theorem o_fdivW : Op2 K rDivW gDivW := op2IC fun _ _ _ => .int _
end
def PureD (np m : Nat) (fs : FS) (wb : SW) : Prop := ∀ cs q e, cs.length = np → fs cs q e →
  wb { nx := fun τ => Keeps cs τ ∧ q .non (ends cs τ), rt := fun d τ => Keeps cs τ ∧ q d (ends cs τ), rf := fun _ _ => False, bk := fun _ => False, ct := fun _ => False, ex := fun x τ => Keeps cs τ ∧ e x (ends cs τ) } (cs ++ List.replicate m .any)
def PureF (np m : Nat) (fs : FSF) (wb : SW) : Prop := ∀ cs q e, cs.length = np → fs cs q e →
  wb { nx := fun _ => False, rt := fun _ _ => False, rf := fun ds τ => Keeps cs τ ∧ q ds (ends cs τ), bk := fun _ => False, ct := fun _ => False, ex := fun x τ => Keeps cs τ ∧ e x (ends cs τ) } (cs ++ List.replicate m .any)
theorem cmul_l {i j : Int} (h1 : -(2 ^ 64) < i) (h2 : i < 2 ^ 64) : CMulA i j := .inl (.inl ⟨h1, h2⟩)
theorem cmul_r {i j : Int} (h1 : -(2 ^ 64) < j) (h2 : j < 2 ^ 64) : CMulA i j := .inl (.inr ⟨h1, h2⟩)
end L3

/-! ## words for the pure part -/
namespace L3
open PySem PySem.Spec PyProof.Rows L2
variable [TB : TabT]
section
variable {K : PySem.W.Frag}
def isiD : D → String → Bool
  | .bl _, n => n == "bool" || n == "int"
  | .int _, n => n == "int"
  | .str _, n => n == "str"
  | .tup _, n => n == "tuple"
  | .lst _, n => n == "list"
  | .fl _, n => n == "list"
  | _, _ => false
abbrev kinds : List String := ["int", "bool", "str", "tuple", "list"]
mutual
def OkD (K : PySem.W.Frag) : D → Prop
  | .ty _ => False
  | .ins C _ => InsTy K C ∧ ∀ n ∈ kinds, PySem.W.kitOne K (.ref C) (.type n) = some false
  | .adr _ => False
  | .dc _ => False
  | .dtc _ => False
  | .oth t => ∀ n ∈ kinds, PySem.W.kitOne K t (.type n) = some false
  | .tup ds => OkDs K ds
  | .lst ds => OkDs K ds
  | .fl ds => OkDs K ds
  | .non => True
  | .bl _ => True
  | .int _ => True
  | .str _ => True
def OkDs (K : PySem.W.Frag) : List D → Prop
  | [] => True
  | d :: ds => OkD K d ∧ OkDs K ds
end
theorem okDs_mem : ∀ {ds : List D} {d : D}, OkDs K ds → d ∈ ds → OkD K d
  | [], d, _, h => by simp at h
  | x :: ds, d, h, hd => by
    have h : OkD K x ∧ OkDs K ds := by unfold OkDs at h; exact h
    rcases List.mem_cons.mp hd with rfl | hd
    · exact h.1
    · exact okDs_mem h.2 hd
theorem okDs_of : ∀ {ds : List D}, (∀ d ∈ ds, OkD K d) → OkDs K ds
  | [], _ => by unfold OkDs; trivial
  | x :: ds, h => by
    unfold OkDs
    exact ⟨h x (List.mem_cons_self ..), okDs_of fun d hd => h d (List.mem_cons_of_mem _ hd)⟩
theorem okTup {ds : List D} (h : OkD K (.tup ds)) {d : D} (m : d ∈ ds) : OkD K d := okDs_mem (by unfold OkD at h; exact h) m
theorem kit_tbl : ∀ a ∈ ["NoneType", "bool", "int", "str", "tuple", "list"], ∀ n ∈ kinds, kitB a n = some ((a == n) || (a == "bool" && n == "int")) := by decide +kernel
theorem isi_ok {d : D} {n : String} (h : OkD K d) (hn : n ∈ kinds) : TyOk K d ∧ PySem.W.kitOne K (tyD d) (.type n) = some (isiD d n) := by
  have five : n = "int" ∨ n = "bool" ∨ n = "str" ∨ n = "tuple" ∨ n = "list" := by simpa [kinds] using hn
  have t : ∀ a ∈ ["NoneType", "bool", "int", "str", "tuple", "list"], PySem.W.kitOne K (.type a) (.type n) = some ((a == n) || (a == "bool" && n == "int")) := fun a ha => kit_ty (kit_tbl a ha n hn)
  cases d with
  | ty _ => unfold OkD at h; exact h.elim
  | ins C gs => unfold OkD at h; exact ⟨.inr ⟨C, gs, rfl, h.1⟩, h.2 n hn⟩
  | adr _ => unfold OkD at h; exact h.elim
  | dc _ => unfold OkD at h; exact h.elim
  | dtc _ => unfold OkD at h; exact h.elim
  | oth t => unfold OkD at h; exact ⟨.inl trivial, h n hn⟩
  | non => refine ⟨.inl trivial, (t "NoneType" (by simp)).trans ?_⟩; rcases five with rfl | rfl | rfl | rfl | rfl <;> simp [isiD]
  | bl _ => refine ⟨.inl trivial, (t "bool" (by simp)).trans ?_⟩; rcases five with rfl | rfl | rfl | rfl | rfl <;> simp [isiD]
  | int _ => refine ⟨.inl trivial, (t "int" (by simp)).trans ?_⟩; rcases five with rfl | rfl | rfl | rfl | rfl <;> simp [isiD]
  | str _ => refine ⟨.inl trivial, (t "str" (by simp)).trans ?_⟩; rcases five with rfl | rfl | rfl | rfl | rfl <;> simp [isiD]
  | tup _ => refine ⟨.inl trivial, (t "tuple" (by simp)).trans ?_⟩; rcases five with rfl | rfl | rfl | rfl | rfl <;> simp [isiD]
  | lst _ => refine ⟨.inl trivial, (t "list" (by simp)).trans ?_⟩; rcases five with rfl | rfl | rfl | rfl | rfl <;> simp [isiD]
  | fl _ => refine ⟨.inl trivial, (t "list" (by simp)).trans ?_⟩; rcases five with rfl | rfl | rfl | rfl | rfl <;> simp [isiD]
/-- isinstance(d, n) -/
theorem gIsi_ok {d : D} {n : String} {q : D → Prop} (h : OkD K d) (hn : n ∈ kinds) (hq : q (.bl (isiD d n))) : gIsi K [d, .ty n] q :=
  ⟨d, n, _, rfl, (isi_ok h hn).1, (isi_ok h hn).2, hq⟩
/-- a comprehension that maps what passes the test -/
theorem lc_fm {ds : List D} {τ1 : List Cell} {wg : GW} {wt : TW} {we : EW} {vs : List Nat} {q : D → List Cell → Prop} (f : D → D) (p : D → Bool) (hn : ds.length ≤ 1000)
    (hs : ∀ d ∈ ds, ∀ (k1 : D → List Cell → Prop) (k2 : List Cell → Prop), (p d = true → ∀ τ5, wipeD τ5 vs = wipeD τ1 vs → k1 (f d) τ5) → (p d = false → ∀ τ5, wipeD τ5 vs = wipeD τ1 vs → k2 τ5) →
      wg d (wipeD τ1 vs) fun τ3 => wt τ3 (fun b τ4 => (b = true → we τ4 k1 noX) ∧ (b = false → k2 τ4)) noX)
    (hq : q (.lst ((ds.filter p).map f)) (wipeD τ1 vs)) :
    ds.length ≤ 1000 ∧ ∃ inv : Nat → List D → List Cell → Prop, inv 0 [] (wipeD τ1 vs) ∧
    (∀ i d acc τ2, ds[i]? = some d → inv i acc τ2 → acc.length ≤ i → wg d τ2 fun τ3 => wt τ3 (fun b τ4 => (b = true → we τ4 (fun y τ5 => inv (i + 1) (acc ++ [y]) (wipeD τ5 vs)) noX) ∧ (b = false → inv (i + 1) acc (wipeD τ4 vs))) noX) ∧
    ∀ acc τ2, inv ds.length acc (wipeD τ2 vs) → acc.length ≤ ds.length → q (.lst acc) (wipeD τ2 vs) := by
  refine ⟨hn, fun i acc τ => acc = ((ds.take i).filter p).map f ∧ τ = wipeD τ1 vs, ⟨by simp, rfl⟩, ?_, ?_⟩
  · rintro i d acc τ2 hd ⟨rfl, rfl⟩ _
    have tk : ds.take (i + 1) = ds.take i ++ [d] := by
      rw [List.take_add_one, hd]
      rfl
    refine hs d (List.mem_of_getElem? hd) _ _ (fun hp τ5 e => ⟨?_, e⟩) (fun hp τ5 e => ⟨?_, e⟩)
    · rw [tk, List.filter_append, List.map_append]
      simp [hp]
    · rw [tk, List.filter_append, List.map_append]
      simp [hp]
  · rintro acc τ2 ⟨rfl, e⟩ _
    rw [e, List.take_length]
    exact hq
end
end L3
namespace L3
open PySem PySem.Spec PyProof.Rows L2
variable [TB : TabT]
theorem gIsi_iff {K : PySem.W.Frag} {d : D} {n : String} {q : D → Prop} (h : OkD K d) (hn : n ∈ kinds) : gIsi K [d, .ty n] q ↔ q (.bl (isiD d n)) := by
  refine ⟨fun ⟨d', n', b, e, _, e2, hq⟩ => ?_, gIsi_ok h hn⟩
  cases e
  rw [(isi_ok h hn).2] at e2
  cases e2
  exact hq
end L3
namespace L3
open PySem PySem.Spec PyProof.Rows L2
variable [TB : TabT]
theorem atI_nat' {α : Type} {l : List α} {k : Nat} {x : α} (h : l[k]? = some x) : atI l (k : Int) = some x := by
  have hk := (List.getElem?_eq_some_iff.mp h).1
  unfold atI ixN
  rw [if_pos (Int.natCast_nonneg k), if_pos (by omega)]
  exact h
theorem atI0 {α : Type} {x : α} {r : List α} : atI (x :: r) 0 = some x := atI_nat' (k := 0) rfl
theorem atI1 {α : Type} {x y : α} {r : List α} : atI (x :: y :: r) 1 = some y := atI_nat' (k := 1) rfl
theorem atI2 {α : Type} {x y z : α} {r : List α} : atI (x :: y :: z :: r) 2 = some z := atI_nat' (k := 2) rfl
theorem atI3 {α : Type} {x y z a : α} {r : List α} : atI (x :: y :: z :: a :: r) 3 = some a := atI_nat' (k := 3) rfl
theorem atI4 {α : Type} {x y z a b : α} {r : List α} : atI (x :: y :: z :: a :: b :: r) 4 = some b := atI_nat' (k := 4) rfl
theorem ixN51 : ixN 5 1 = some 1 := by decide
theorem ixN52 : ixN 5 2 = some 2 := by decide
theorem ixN53 : ixN 5 3 = some 3 := by decide
/-- where the law's draws stand -/
def SrcC (c : Cont) : Prop := ∃ (ns : List Int) (i r t f : Int), c = .lst [.lst (ns.map D.int), .int i, .int r, .int t, .int f] ∧ 0 ≤ i ∧ 0 ≤ r
end L3
namespace L3
theorem seqD_t {ds : List D} : seqD (.tup ds) = some ds := rfl
theorem seqD_l {ds : List D} : seqD (.lst ds) = some ds := rfl
theorem seqD_f {ds : List D} : seqD (.fl ds) = some ds := rfl
end L3
namespace L3
open PySem PySem.Spec PyProof.Rows L2
variable [TB : TabT]
theorem atIm1_2 {α : Type} {x y : α} : atI [x, y] (-1) = some y := rfl
theorem atIm1_3 {α : Type} {x y z : α} : atI [x, y, z] (-1) = some z := rfl
theorem gEqD_refl {d : D} {p : PyData} {q : D → Prop} (h : toPy d = some p) (hs : SeqAt.shaped p = true) (hq : q (.bl true)) : gEqD d d q :=
  ⟨p, p, h, h, hs, hs, by rw [SeqAt.eqv_refl _ (SeqAt.canLay_of_shaped hs)]; exact hq⟩
theorem gNeD_refl {d : D} {p : PyData} {q : D → Prop} (h : toPy d = some p) (hs : SeqAt.shaped p = true) (hq : q (.bl false)) : gNeD d d q :=
  ⟨p, p, h, h, hs, hs, by rw [SeqAt.eqv_refl _ (SeqAt.canLay_of_shaped hs)]; exact hq⟩
end L3

/-! ## an own error whose __init__ does nothing, made without arguments -/
namespace L3
open PySem PySem.Spec PyProof.Rows L2
variable [TB : TabT]
section
open PySem.W PySem.Calls PySem.HandSPX
def xA (p1 : Pos) : Arguments := { posonlyargs := [], args := [{ arg := "self", annotation := none, pos := p1 }], vararg := none, kwonlyargs := [], kw_defaults := [], kwarg := none, defaults := [] }
def xB (q1 : Pos) : List Stmt := [.Pass q1]
def xS : Scope := { kind := .function, names := [(PySem.Str.ofString "self", .local)], isGenerator := false, isCoroutine := false, more := [] }
structure Exc0 (K : Frag) (mg : Str → Option Value) (x qn : Str) (C fI : Addr) : Prop where
  gC : mg x = some (.ref C)
  cls : ∃ nm q N bs bm sn sub ab col dd k0 k1 k2 k3 k5, K.lookup C = some (excClassObj nm q C N bs bm true sn sub ab col dd k0 k1 k2 k3 k5 "ValueError.__new__") ∧ refsVE bm = true
  iC : findIn K (.ref C) "__init__" = some (some (.ref fI))
  tC : typeIn K (.ref fI) = some (.type "function")
  kC : keepIn K (.ref C) = true
  exC : subIn K (.ref C) (.type "BaseException") = some true
  tyC : typeIn K (.ref C) = some (.type "type")
  fn : ∃ (oc : Value) (od : Option Addr) (doc pm : Value) (an : Option Addr) (cdv ct : Value) (osl : Array (Option Value)) (p1 q1 : Pos),
    K.lookup fI = some ⟨oc, od, .func (fnOf "__init__" qn (xA p1) (xB q1) xS .none .none doc pm an cdv ct), osl⟩ ∧ codeIn K cdv qn = true
variable {prog : Program} {w : World} {A : Around} {E : Value → Shared → Prop} {R : Result → Shared → Prop} {s : Shared} {K : Frag} {mg : Str → Option Value} {C fI : Addr} {x qn : Str}
theorem exc0_init (T : Exc0 K mg x qn C fI) {e : Addr} (X : K.In s.heap) (hlim : s.heap.NoLimit) (hroom : A.depth < recursionLimit)
    (hq : ∀ h' tk, (∀ b o, s.heap.get? b = some o → h'.get? b = some o) → R (.ok (.ret .none)) { s with heap := h', toks := tk }) :
    codeAny (model prog w) A (.call (.ref fI) ⟨[.ref e], []⟩) R s := by
  obtain ⟨oc, od, doc, pm, an, cdv, ct, osl, p1, q1, ho, hcd⟩ := T.fn
  refine Att.call_fn (binds := [("self", .ref e)]) X hlim ho hcd hroom (BindsTo.of_eq (by first | rfl | with_unfolding_all rfl)) (by first | rfl | decide | with_unfolding_all rfl) (fun s₁ IC => ?_) rfl rfl rfl
  obtain ⟨h₁, tk₁, rfl⟩ := IC.toInCall.same
  have k : ∀ b o, s.heap.get? b = some o → h₁.get? b = some o := IC.toInCall.keep
  show wpAny _ _ (execs _ _) _ _ _
  refine wpAny_execs_cons (wpAny_Pass ?_)
  show wpAny _ _ (execs _ _) _ _ _
  exact wpAny_execs_nil (hq h₁ tk₁ k)
theorem exc0_made (T : Exc0 K mg x qn C fI) (X : K.In s.heap) (hlim : s.heap.NoLimit) (hroom : A.depth + 1 < recursionLimit)
    (hq : ∀ h' tk e, (∀ b o, s.heap.get? b = some o → h'.get? b = some o) → s.heap.objs.size ≤ e → (∃ t0, h'.get? e = some (excO C t0)) → R (.ok (.ret (.ref e))) { s with heap := h', toks := tk }) :
    codeAny (model prog w) A (.call (.ref C) ⟨[], []⟩) R s := by
  obtain ⟨nm, q, N, bs, bm, sn, sub, ab, col, dd, k0, k1, k2, k3, k5, hC, hbm⟩ := T.cls
  obtain ⟨hp, g, dr, tk, os⟩ := s
  have k : ∀ b o, hp.get? b = some o → ((hp.push (kdv_tup [])).push (excO C hp.objs.size)).get? b = some o := fun b o e => Heap.get?_push_of_some _ (Heap.get?_push_of_some _ e)
  have hget : ((hp.push (kdv_tup [])).push (excO C hp.objs.size)).get? (hp.objs.size + 1) = some (excO C hp.objs.size) := by heap_get
  refine call_own F.excBase_ValueError (fun X => refsVE_contains X bm hbm) (X _ _ hC) (looks_findIn X T.iC) (fun self => bind_fn X self T.tC) (Nat.zero_le _) ?_
  refine exc0_init (s := ⟨(hp.push (kdv_tup [])).push (excO C hp.objs.size), g, dr, tk, os⟩) T (X.keeps k) (hlim.keeps k) ?_ fun h' tk' k' => ?_
  · show A.depth + 1 < recursionLimit
    exact hroom
  · exact ⟨rfl, hq h' tk' (hp.objs.size + 1) (fun b o e => k' b o (k b o e)) (Nat.le_succ _) ⟨_, k' _ _ hget⟩⟩
end
section
variable {X : Cx} {C fI : Addr} {x qn : Str}
/-- x() as what is raised -/
theorem pmk0 {p pos : Pos} {k : Nat} (T : Exc0 X.K X.mg x qn C fI) (hr : Room k X.A) (hg : Gl X x := by rfl) (hdb : (x == ("__debug__" : Str)) = false := by decide) :
    PMk X (.Call (.Name x p) [] [] pos) (fun _ H Q => Q (.ref C) none H) := by
  intro pins s σ H Q I h
  refine wpAny_Call_Name_kw (ld_glob I hg T.gC ?_ hdb)
  refine PySem.W.callWith_K0 I.kIn T.kC ?_
  have hlim := I.nolimit
  obtain ⟨hp, g, dr, tk, os⟩ := s
  refine wpAny_call (exc0_made T I.kIn hlim (by have := hr.dp; omega) fun h' tk' e kp hn ⟨t0, he⟩ => ?_)
  show MkP X pins σ Q (.ref e) ⟨h', g, dr, tk', os⟩
  obtain ⟨G', g1, g2⟩ := restrict h' fun b => decide (b ≠ e)
  have gk : ∀ b, b ≠ e → G'.get? b = h'.get? b := fun b hb => g1 b (decide_eq_true hb)
  have ge : G'.get? e = none := g2 e (by simp)
  have old : ∀ b o, hp.get? b = some o → G'.get? b = some o := fun b o q => (gk b (Nat.ne_of_lt (Nat.lt_of_lt_of_le (Heap.lt_size q) hn))).trans (kp b o q)
  have J : Inv X pins σ H ⟨G', g, dr, tk', os⟩ := I.kept (t' := tk') old
  refine ⟨e, _, _, ⟨G', g, dr, tk', os⟩, H, .ref C, none, rfl, J, fun b o q => ?_, ge, he, ⟨rfl, rfl⟩, rfl, rfl, I.hok.fresh hn, rfl, I.bare, raises_own T.exC T.tyC, h⟩
  by_cases hb : b = e
  · have q' : G'.get? b = some o := q
    rw [hb, ge] at q'; cases q'
  · exact (gk b hb).symm.trans q
end
section
variable {K : PySem.W.Frag} {W : WX}
def wRaise0 (C : Addr) : SW := fun E τ => E.ex ⟨C, []⟩ τ
theorem ds_raise0 {C : Addr} : DS K W (fun _ σ H => (fun (_ : L2.St) (H : Hp) (Q : XK) => Q (.ref C) none H) σ H fun cls d H' => W cls d σ H') (wRaise0 C) :=
  ⟨fun σ H τ F Dn E S hw o => o.ex σ _ _ none τ F H (.refl S) ⟨rfl, .inl ⟨rfl, rfl⟩⟩ hw⟩
end
end L3

/-! ## sorted, of things of any depth -/
namespace L3
open PySem PySem.Spec PyProof.Rows L2
variable [TB : TabT]
section
variable {X : Cx}
theorem reads_each {pins : List (Addr × Obj)} {σ : L2.St} {H : Hp} {s : Shared} (I : Inv X pins σ H s) : ∀ {bs : List (V × PyData)} {us : List Value}, Vals (bs.map (·.1)) us → (∀ b ∈ bs, Dp X.K H b.1 b.2) →
    PySem.W.EachIs (fun v (b : V × PyData) => RelV b.1 v) us bs ∧ PySem.W.EachIs (fun v (b : V × PyData) => ∃ as, Reads s.heap v b.2 as) us bs
  | [], _, .nil, _ => ⟨.nil, .nil⟩
  | b :: bs, _, .cons r t, h => by
    obtain ⟨h1, h2⟩ := reads_each I t fun c hc => h c (List.mem_cons_of_mem _ hc)
    exact ⟨.cons r h1, .cons (Dp.reads I b.2 b.1 _ (h b (List.mem_cons_self ..)) r) h2⟩
theorem each_vals : ∀ {bs : List (V × PyData)} {us : List Value}, PySem.W.EachIs (fun v (b : V × PyData) => RelV b.1 v) us bs → Vals (bs.map (·.1)) us
  | _, _, .nil => .nil
  | _, _, .cons r t => .cons r (each_vals t)
def rSortG (K : PySem.W.Frag) : List V → Hp → VK → Prop := fun vs H Q => ∃ (a : Addr) (bs : List (V × PyData)), vs = [.ref a] ∧ SqL K H a (bs.map (·.1)) ∧ (∀ b ∈ bs, Dp K H b.1 b.2) ∧ PySem.W.AllAlike (bs.map (·.2)) ∧ PySem.W.Sortable (bs.map (·.2)) ∧ (∀ b ∈ bs, b.2.depth ≤ 60) ∧
  ∀ p, H p = none → Q (.ref p) (upd H p (.lst ((bs.mergeSort (PySem.W.dataLe false fun b => b.2)).map (·.1))))
theorem cr_sortG (hu : X.A.units + 64 < cLine) : CallR X (.builtin "sorted") (rSortG X.K) := by
  intro pins s σ H vs us Q I r h
  obtain ⟨a, bs, rfl, hs, hd, hal, hk, hdep, q⟩ := h
  obtain ⟨its, rv, hl, hz⟩ := I.list hs
  obtain ⟨u, rfl, ru⟩ := vals1 r
  obtain rfl : u = Value.ref a := ru
  obtain ⟨e1, e2⟩ := reads_each I rv hd
  have hlen : bs.length ≤ sizeLine := by
    have := rv.length
    rw [List.length_map] at this hz
    exact hz
  refine PySem.W.sorted_data (R := fun v (b : V × PyData) => RelV b.1 v) (enc := fun b => b.2) hl.isList e1 e2 hal hk hlen (fun b hb => by have := hdep b hb; omega) fun out ho eo => ?_
  obtain ⟨c, hc⟩ := sortedAll_at s.heap its out.toArray
  have vo := each_vals eo
  have hf := I.hok.fresh (Nat.le_succ s.heap.objs.size)
  refine ⟨.ref (s.heap.objs.size + 1), _, I.laid (t' := s.toks) (fun b o e => sortedAll_old e) (Nat.le_succ _) (o := .lst ((bs.mergeSort (PySem.W.dataLe false fun b => b.2)).map (·.1))) ⟨?_, out, c, vo, hc⟩, rfl, q _ hf⟩
  rw [vo.length, ho]
  exact hlen
end
section
variable {K : PySem.W.Frag} {W : WX}
def pyD (d : D) : PyData := (toPy d).getD .none
def leD (a b : D) : Bool := PySem.W.dataLe false (fun d => pyD d) a b
/-- sorted(xs) -/
def gSort : List D → (D → Prop) → Prop := fun ds q => ∃ es, (ds = [.lst es] ∨ ds = [.fl es]) ∧ (∀ e ∈ es, (toPy e).isSome) ∧ PySem.W.AllAlike (es.map pyD) ∧ PySem.W.Sortable (es.map pyD) ∧ (∀ e ∈ es, (pyD e).depth ≤ 60) ∧ q (.lst (es.mergeSort leD))
theorem reps_pairs {F : Hp} : ∀ {vs : List V} {ds : List D}, Reps K F vs ds → ∃ bs : List (V × D), bs.map (·.1) = vs ∧ bs.map (·.2) = ds ∧ ∀ b ∈ bs, Rep K F b.1 b.2
  | _, _, .nil => ⟨[], rfl, rfl, fun b h => by simp at h⟩
  | _, _, .cons (v := v) (d := d) r t => by
    obtain ⟨bs, h1, h2, h3⟩ := reps_pairs t
    refine ⟨(v, d) :: bs, by rw [List.map_cons, h1], by rw [List.map_cons, h2], fun b hb => ?_⟩
    rcases List.mem_cons.mp hb with rfl | hb
    · exact r
    · exact h3 b hb
theorem pairs_reps {F : Hp} : ∀ {bs : List (V × D)}, (∀ b ∈ bs, Rep K F b.1 b.2) → Reps K F (bs.map (·.1)) (bs.map (·.2))
  | [], _ => .nil
  | b :: bs, h => .cons (h b (List.mem_cons_self ..)) (pairs_reps fun c hc => h c (List.mem_cons_of_mem _ hc))
theorem o_sort : OpN K (rSortG K) gSort := by
  rintro F H xs ds q Q s r ⟨es, e, hsome, hal, hk, hdep, hq⟩ k
  have : ∃ a vs, xs = [.ref a] ∧ SqL K F a vs ∧ Reps K F vs es := by
    rcases e with rfl | rfl
    · obtain ⟨v, rfl, r1⟩ := r.one
      cases r1 with
      | lst h r => exact ⟨_, _, rfl, .inl (.inl h), r⟩
    · obtain ⟨v, rfl, r1⟩ := r.one
      cases r1 with
      | fl h r => exact ⟨_, _, rfl, h, r⟩
  obtain ⟨a, vs, rfl, hs, rs⟩ := this
  obtain ⟨bs, rfl, rfl, hb⟩ := reps_pairs rs
  let f : V × D → V × PyData := fun b => (b.1, pyD b.2)
  have m1 : (bs.map f).map (·.1) = bs.map (·.1) := by rw [List.map_map]; rfl
  have m2 : (bs.map f).map (·.2) = (bs.map (·.2)).map pyD := by rw [List.map_map, List.map_map]; rfl
  refine ⟨a, bs.map f, rfl, by rw [m1]; exact s.seq hs, fun b hm => ?_, by rw [m2]; exact hal, by rw [m2]; exact hk, fun b hm => ?_, fun p hp => ?_⟩
  · obtain ⟨c, hc, rfl⟩ := List.mem_map.mp hm
    have h1 := hsome c.2 (List.mem_map.mpr ⟨c, hc, rfl⟩)
    obtain ⟨pd, e⟩ := Option.isSome_iff_exists.mp h1
    have e2 : pyD c.2 = pd := by unfold pyD; rw [e]; rfl
    show Dp K H c.1 (pyD c.2)
    rw [e2]
    exact Dp_mono s (dp_of (hb c hc) e)
  · obtain ⟨c, hc, rfl⟩ := List.mem_map.mp hm
    exact hdep c.2 (List.mem_map.mpr ⟨c, hc, rfl⟩)
  · have e1 : (bs.map f).mergeSort (PySem.W.dataLe false fun b => b.2) = (bs.mergeSort fun a b => leD a.2 b.2).map f := by
      symm
      apply List.map_mergeSort
      intro a _ b _
      rfl
    have e2 : (bs.mergeSort fun a b => leD a.2 b.2).map (·.2) = (bs.map (·.2)).mergeSort leD := by
      apply List.map_mergeSort
      intro a _ b _
      rfl
    rw [e1, List.map_map]
    have e3 : ((fun b : V × PyData => b.1) ∘ f) = fun b : V × D => b.1 := rfl
    rw [e3]
    obtain ⟨x1, x2⟩ := new_ext (o := .lst ((bs.mergeSort fun a b => leD a.2 b.2).map (·.1))) s hp
    refine k _ (.lst ((bs.map (·.2)).mergeSort leD)) _ _ x1 x2 (.lst upd_same ?_) hq
    rw [← e2]
    refine pairs_reps fun b hm => ?_
    exact (hb b (List.mem_mergeSort.mp hm)).mono (new_same s hp)

/-! ## dicts that are written, things that are only handed about -/
def wDict0 : EW := fun τ q _ => q (.oth (.type "dict")) τ
theorem de_dict0 : DE K W tDNewK wDict0 := by
  refine ⟨fun σ H τ F Q q e S hq k _ p hp => ?_⟩
  obtain ⟨x1, x2⟩ := new_ext (o := .dK []) S.sub hp
  exact k _ _ τ _ _ (.small S x1 x2) (.oth (.base (.dK upd_same))) hq
def keyD : D → Option Key | .int i => some (.inl i) | .str x => some (.inr x) | _ => none
/-- {k: v} -/
def wDict1 (wk wv : EW) : EW := fun τ q e => wk τ (fun k τ1 => wv τ1 (fun _ τ2 => (keyD k).isSome ∧ q (.oth (.type "dict")) τ2) e) e
theorem de_dict1 {tk tv : TE} {wk wv : EW} (hk : DE K W tk wk) (hv : DE K W tv wv) : DE K W (tDisp [(tk, tv)]) (wDict1 wk wv) := by
  refine ⟨fun σ H τ F Q q e S hw kq x p hp => ?_⟩
  have nF := new_not_data S hp
  have nO := new_not_own S hp
  have T0 : To K F H σ τ F (upd H p (.dK [])) τ := (To.refl S).touch (fr_none hp) nF nO (tabs_new hp)
  refine hk.run σ _ τ F _ _ e T0.ok hw (fun v1 d1 τ1 F1 H1 t1 r1 h1 => ?_) (x.of T0)
  refine hv.run σ H1 τ1 F1 _ _ e t1.ok h1 (fun v2 d2 τ2 F2 H2 t2 r2 ⟨hs, hq⟩ => ?_) ((x.of T0).of t1)
  have t12 := t1.trans t2
  have hP : H2 p = some (.dK []) := t12.ext.keep p _ upd_same (fun z => nO z) (fun ps z => by cases z)
  have nF2 : F2 p = none := t12.not_data (o := .dK []) nO upd_same nF
  have nO2 : ¬ IsOwn τ2 p := t12.not_own (o := .dK []) nO upd_same
  obtain ⟨key, ek⟩ := Option.isSome_iff_exists.mp hs
  have ev : v1 = kV key := by
    cases d1 <;> cases ek
    · exact r1.int_of
    · cases r1; rfl
  refine ⟨hP, [(key, v2)], by rw [ev]; rfl, by simp, ?_⟩
  have T2 := T0.trans t12
  have T3 : To K F H σ τ F2 (upd H2 p (.dK (mergeK [] [(key, v2)]))) τ2 := T2.touch (fr_none hp) nF2 nO2 (tabs_dK hP)
  exact kq _ _ τ2 _ _ (T3.freeze (fr_none hp) nF2 upd_same nO2) (.oth (.base (.dK upd_same))) hq
end
end L3

/-! ## enumerate of a tuple, t[::-1] -/
namespace L3
open PySem PySem.Spec PyProof.Rows L2
theorem wp_ctt {M : Model} {A : Around} {Q : Bool → Shared → Prop} {E : Value → Shared → Prop} {s : Shared} {c : Value} (h : ∀ b, Q b s) : wpAny M A (Builtin.SmallTypes.calledThroughType c) Q E s := wpAny_bind (wpAny_stack_any fun _ => wpAny_pure (h _))
theorem meets_enumT (v : Value) (o : Obj) (H : Heap → Prop)
    (hit : ∀ (prog : Program) (w : World) (A : Around) (E : Value → Shared → Prop) (s : Shared) (Q : Value → Shared → Prop), H s.heap →
      Q (.ref s.heap.objs.size) { s with heap := s.heap.push o } → wpAny (model prog w) A (pyIter v) Q E s) :
    Meets (Builtin.«enumerate.__new__» { pos := [.type "enumerate", v] }) fun _ R s => H s.heap ∧
      R (.ok (.ret (.ref (s.heap.push o).objs.size))) { s with heap := (s.heap.push o).push { cls := .type "enumerate", data := .fields #[.none, .bool false, .ref s.heap.objs.size, rawInt 0, .none, .none] } } := by
  refine Meets.of_wp fun prog w A R s h => ?_
  obtain ⟨h1, h2⟩ := h
  have hsub := sub_enumerate
  unfold Builtin.«enumerate.__new__» Builtin.SmallTypes.newClass
  refine wpAny_bind ?_
  show wpAny _ _ ((isType (.type "enumerate")) >>= _) _ _ _
  refine wpAny_bind ?_
  refine wpAny_pure ?_
  refine wpAny_ite_false rfl ?_
  refine wpAny_bind (wpAny_of_eq hsub (wpAny_ite_false rfl (wpAny_pure ?_)))
  refine wpAny_ite_true rfl ?_
  refine wpAny_bind ?_
  have fin : wpAny (model prog w) A.in1 (do
              let __do_lift ← pyIter v
              let __do_lift ←
                Builtin.SmallTypes.newRecord (Value.type "enumerate")
                    (Builtin.SmallTypes.ownedTupleFields ++ [__do_lift, rawInt 0, Value.none, Value.none])
              ret __do_lift) (fun fin s' => ∃ v, fin = Fin.done (Flow.ret v) ∧ R (Except.ok (Flow.ret v)) s') (fun e s' => R (Except.error e) s') s := by
    refine wpAny_bind (hit prog w A.in1 _ s _ h1 ?_)
    refine wpAny_bind ?_
    unfold Builtin.SmallTypes.newRecord
    refine wpAny_newObj_type ?_ (show (6 : Nat) ≤ sizeLine + 2 by decide)
    exact wpAny_pure ⟨_, rfl, h2⟩
  refine wp_ctt fun short => ?_
  cases short
  · refine wpAny_ite_false rfl ?_
    refine wpAny_bind ?_
    refine wpAny_pure (a := (v, none)) ?_
    exact fin
  · refine wpAny_ite_true rfl ?_
    refine wpAny_bind ?_
    refine wpAny_pure (a := (v, none)) ?_
    exact fin
theorem call_enumT {prog : Program} {w : World} {A : Around} {E : Value → Shared → Prop} {s : Shared} {t : Addr} {items : Array Value} {Q : Value → Shared → Prop} (ht : s.heap.IsTuple t items)
    (h : ∀ h' : Heap, IsEnum h' (s.heap.objs.size + 1) s.heap.objs.size 0 .none → h'.IsTupleIter s.heap.objs.size t 0 → h'.objs.size = s.heap.objs.size + 2 → (∀ (b : Addr) (o : Obj), s.heap.get? b = some o → h'.get? b = some o) →
      Q (.ref (s.heap.objs.size + 1)) { s with heap := h' }) : wpAny (model prog w) A (call (.type "enumerate") [.ref t]) Q E s := by
  let io : Obj := { cls := .type "tuple_iterator", data := .fields #[.ref t, .int 0 0] }
  refine callType_new F.called_enumerate (by decide) (F.typeCall_enumerate_1 _) (F.newCall_enumerate_1 _) (fun obj => F.args_object_init_2 obj _) F.entry_enumerate_new (meets_enumT (.ref t) io (fun h => h.IsTuple t items) fun prog w A E s Q hh hq => wpAny_pyIter_tuple hh hq) ⟨ht, ?_⟩
  have hz := Heap.size_push s.heap io
  have he : ((s.heap.push io).push { cls := .type "enumerate", data := .fields #[.none, .bool false, .ref s.heap.objs.size, rawInt 0, .none, .none] }).get? (s.heap.objs.size + 1) = some { cls := .type "enumerate", data := .fields #[.none, .bool false, .ref s.heap.objs.size, rawInt 0, .none, .none] } := by
    rw [← hz]
    exact Heap.get?_push_size (s.heap.push io) rfl
  rw [hz]
  refine ⟨⟨_, he, rfl⟩, h _ he ⟨io, Heap.get?_push_of_some _ (Heap.get?_push_size s.heap rfl), rfl, rfl⟩ ?_ fun b o e => Heap.get?_push_of_some _ (Heap.get?_push_of_some _ e)⟩
  rw [Heap.size_push, hz]
theorem draws_tuple {prog : Program} {w : World} {A : Around} (hh : A.handled = none) (it l : Addr) (hne : l ≠ it) (items : Array Value) :
    Draws prog w A it [it, l] items.size (fun i v => items[i]? = some v) fun i h => h.IsTupleIter it l i ∧ h.IsTuple l items := by
  refine ⟨fun _ _ st => ?_, fun _ _ _ st hk => ⟨st.1.at fun o e => hk it (by simp) o e, st.2.at fun o e => hk l (by simp) o e⟩, fun i s Q E hi st hQ => ?_, fun s Q E st hE => RZ.nextOf_tuple_end hh st.1 st.2 (by simp) hE⟩
  · obtain ⟨o, ho, _⟩ := st.1
    exact ⟨o, ho⟩
  · exact RZ.nextOf_tuple_item (x := items[i]) st.1 st.2 (by simp [hi]) fun h' hit' hs' => hQ items[i] h' s.toks (by simp [hi]) ⟨hit', st.2.extBut hs'.extBut hne⟩ hs'
theorem draws_end {prog : Program} {w : World} {A : Around} (hh : A.handled = none) (it l : Addr) {items : Array Value} {i : Nat} (hi : items[i]? = none) :
    Draws prog w A it [it, l] i (fun _ _ => False) fun j h => j = i ∧ h.IsTupleIter it l j ∧ h.IsTuple l items := by
  refine ⟨fun _ _ st => ?_, fun _ _ _ st hk => ⟨st.1, st.2.1.at fun o e => hk it (by simp) o e, st.2.2.at fun o e => hk l (by simp) o e⟩, fun j s Q E hj st hQ => absurd st.1 (Nat.ne_of_lt hj), fun s Q E st hE => RZ.nextOf_tuple_end hh st.2.1 st.2.2 hi hE⟩
  obtain ⟨o, ho, _⟩ := st.2.1
  exact ⟨o, ho⟩
def IteT (K : PySem.W.Frag) (a : Addr) : It where
  go i H := ∃ xs x, SqT K H a xs ∧ xs[i]? = some x
  yld i H v H' := ∃ T x, v = .ref T ∧ H T = none ∧ H' = upd H T (.tup [.int i, x]) ∧ ∀ xs, SqT K H a xs → xs[i]? = some x
  stop i H := ∃ xs, SqT K H a xs ∧ xs.length ≤ i
theorem turn_enumT {P : Program} {w : World} {K : PySem.W.Frag} {elts : List Expr} {kk : Nat} {tpos : Pos} (a e it : Addr) :
    Turn P w K (.Tuple elts kk tpos) (IteT K a) [e, it] e fun i h => (∃ old, IsEnum h e it (i : Int) old) ∧ h.IsTupleIter it a i ∧ e ≠ it := by
  refine ⟨by simp, fun i h ⟨⟨old, he⟩, ⟨o, ho, hc, hd⟩, _⟩ b hb => ?_, fun i h h' ⟨⟨old, he⟩, hi, hne⟩ k => ⟨⟨old, k e (by simp) _ he⟩, hi.at fun o q => k it (by simp) o q, hne⟩, ?_, ?_, fun A i s Q E ⟨⟨_, he⟩, _⟩ h => wpAny_pyIter_enum he h⟩
  · have e' : b = e ∨ b = it := by simpa using hb
    rcases e' with rfl | rfl
    · exact ⟨_, he, fun v q => by cases q⟩
    · exact ⟨o, ho, fun v q => by rw [hd] at q; cases q⟩
  · rintro X rfl rfl rfl hc i pins s σ H E I hf ⟨⟨old, he⟩, hit, hne⟩ ⟨xs, x, hq, hx⟩
    obtain ⟨its, rv, p, hz⟩ := I.tuple hq
    obtain ⟨u, hu, ru⟩ := rv.get hx
    have hel : e < s.heap.objs.size := Heap.lt_size he
    have hil : it < s.heap.objs.size := by
      obtain ⟨_, q, _⟩ := hit
      exact Heap.lt_size q
    have hat : a ≠ it := fun z => by
      subst z
      obtain ⟨o1, q1, c1, _⟩ := hit
      obtain ⟨o2, q2, c2, _⟩ := p
      rw [q1] at q2; cases q2; rw [c1] at c2; injection c2 with z; exact absurd z (by decide)
    have hae : e ∉ [it, a] := fun z => by
      have z' : e = it ∨ e = a := by simpa using z
      rcases z' with z' | rfl
      · exact hne z'
      · obtain ⟨o2, q2, c2, _⟩ := p
        rw [he] at q2; cases q2; injection c2 with z; exact absurd z (by decide)
    have hi : i < its.toArray.size := by
      rw [List.size_toArray]
      exact (List.getElem?_eq_some_iff.mp hu).1
    refine wpAny_pyNext_enum_itemD (draws_tuple (by exact I.ok.hd hc) it a hat its.toArray) he ⟨hit, p⟩ hi hne hae fun u' h' tk hu' ho hit' hT hsz hk => ?_
    have eu : u' = u := by
      have : its[i]? = some u' := by simpa using hu'
      rw [hu] at this; cases this; rfl
    subst eu
    refine ⟨_, rfl, wpAny_letOwnedTupleGo_enum ho fun h'' he' sb => ?_⟩
    have hT2 := (sb.2 s.heap.objs.size (Nat.ne_of_gt hel)).trans hT
    have I1 := I.turnedNew (h' := h'') (t' := tk + 1) (ch := [e, it]) (T := s.heap.objs.size) (ob := .tup [.int i, x]) (fun b ob hb q => (sb.2 b fun z => hb (by simp [z])).trans (hk b ob (fun z => hb (by simp [z])) (fun z => hb (by simp [z])) q)) hf (Nat.le_refl _)
      ⟨(show (2 : Nat) ≤ sizeLine by decide), [.int i tk, u'], .cons ⟨tk, rfl⟩ (.cons ru .nil), _, hT2, rfl, 0, rfl⟩
    refine ⟨.ref s.heap.objs.size, _, I1, rfl, ⟨_, x, rfl, I.hok.fresh (Nat.le_refl _), rfl, fun ys hy => ?_⟩, ⟨⟨u', he'⟩, hit'.1.at fun o q => (sb.2 it (Ne.symm hne)).trans q, hne⟩, fun b hb => ?_⟩
    · rw [I.tuple_inj hy hq]; exact hx
    · have e' : b = e ∨ b = it := by simpa using hb
      have hb' : b < s.heap.objs.size := by
        rcases e' with rfl | rfl
        · exact hel
        · exact hil
      rw [upd_ne (Nat.ne_of_lt hb')]
      exact (hf b hb).1
  · rintro X rfl rfl rfl hc i pins s σ H E I hf ⟨⟨old, he⟩, hit, hne⟩ ⟨xs, hq, hx⟩
    obtain ⟨its, rv, p, hz⟩ := I.tuple hq
    obtain ⟨f0, f1, f2, f3, f4, f5⟩ := hf it (by simp)
    have hat : a ≠ it := fun z => by
      subst z
      obtain ⟨o1, q1, c1, _⟩ := hit
      obtain ⟨o2, q2, c2, _⟩ := p
      rw [q1] at q2; cases q2; rw [c1] at c2; injection c2 with z; exact absurd z (by decide)
    have hl : its.toArray[i]? = none := by
      have := rv.length
      simp
      omega
    refine wpAny_pyNext_enum_endD (draws_end (by exact I.ok.hd hc) it a hl) he ⟨rfl, hit, p⟩ fun h' eb => ⟨rfl, I.turned (fun b o hb q => eb b o hb q) f0 f1 f3 f4 f5⟩
def iEnumT (K : PySem.W.Frag) (ta : TA) : TI := fun σ H R => ta σ H fun vs H1 => ∃ a xs, vs = [.ref a] ∧ SqT K H1 a xs ∧ R (IteT K a) H1
theorem pi_enumT {X : Cx} {e : Expr} {ta : TA} {p pos tpos : Pos} {elts : List Expr} {kk : Nat} (hg : Gl X "enumerate") (hm : X.mg "enumerate" = none) (ha : PA X [e] ta)
    (hs : starEach [e] X.env = [(false, eval e X.env)] := by rfl) : PI X (.Tuple elts kk tpos) (.Call (.Name "enumerate" p) [e] [] pos) (iEnumT X.K ta) := by
  refine ⟨fun pins s σ H R I h => ?_⟩
  refine Call_ (ld_blt I hg hm boot_enumerate (PyProof.Rows.callWith_type1 (thn (ha.run pos pins s σ H _ I h) fun us s1 ⟨vs, H1, I1, r1, a, xs, ex, hq, q⟩ => ?_) hs rfl) (by decide) (by decide)) rfl
  subst ex
  obtain ⟨u, rfl, ru⟩ := vals1 r1
  obtain rfl : u = .ref a := ru
  obtain ⟨its, rv, p, hz⟩ := I1.tuple hq
  refine call_enumT p fun h' he hit hsz hk => wpAny_pyIter_enum he ?_
  have I2 := I1.kept (t' := s1.toks) hk
  refine ⟨_, [s1.heap.objs.size + 1, s1.heap.objs.size], _, _, H1, rfl, I2, turn_enumT a _ _, ⟨⟨_, he⟩, hit, Nat.succ_ne_self _⟩, fun b hb => ?_, q⟩
  have hle : s1.heap.objs.size ≤ b := by
    have e' : b = s1.heap.objs.size + 1 ∨ b = s1.heap.objs.size := by simpa using hb
    rcases e' with rfl | rfl
    · exact Nat.le_succ _
    · exact Nat.le_refl _
  exact I1.fpOk hle (I1.hok.fresh hle)
section
variable [TB : TabT] {K : PySem.W.Frag} {W : WX}
def wEnumT (wa : AW) : IW := fun τ q e => wa τ (fun ds τ' => ∃ es, ds = [.tup es] ∧ q (es.mapIdx fun i d => .tup [.int i, d]) τ') e
theorem it_enumT {F : Hp} {a : Addr} {xs : List V} {ds : List D} (h : SqT K F a xs) (r : Reps K F xs ds) : ItOk K F (IteT K a) (ds.mapIdx fun i d => .tup [.int i, d]) := by
  refine ⟨fun i F2 H s s2 hi => ?_, fun F2 H s s2 => ⟨xs, SqT_mono s2 (SqT_mono s h), by rw [List.length_mapIdx, r.length]; exact Nat.le_refl _⟩, fun i F2 H x H' s s2 hi y => ?_⟩
  · rw [List.length_mapIdx, ← r.length] at hi
    exact ⟨xs, xs[i], SqT_mono s2 (SqT_mono s h), List.getElem?_eq_getElem hi⟩
  · obtain ⟨T, x', rfl, hT, rfl, e⟩ := y
    obtain ⟨d, e1, e2⟩ := (r.mono s).get (e xs (SqT_mono s2 (SqT_mono s h)))
    obtain ⟨x1, x2⟩ := new_ext (o := .tup [.int i, x']) s2 hT
    refine ⟨.tup [.int i, d], _, by rw [List.getElem?_mapIdx, e1]; rfl, x1, x2, .tup (.inl (.inl upd_same)) (.cons (.int _) (.cons (e2.mono (new_same s2 hT)) .nil))⟩
theorem di_enumT {t : TA} {w : AW} (h : DA K W t w) : DI K W (iEnumT K t) (wEnumT w) := by
  refine ⟨fun σ H τ F R q e S hw k x => h.run σ H τ F _ _ e S hw (fun vs ds τ' F' H' t' r ⟨es, ed, hq⟩ => ?_) x⟩
  subst ed
  obtain ⟨v, rfl, r1⟩ := r.one
  cases r1 with
  | tup hs r2 => exact ⟨_, _, rfl, SqT_mono t'.ok.sub hs, k _ _ τ' F' H' t' (it_enumT hs r2) hq⟩
end

/-! ### t[::-1] -/
section
variable [TB : TabT] {K : PySem.W.Frag} {W : WX}
theorem o_catT : Op2 K (rCatT K) gCatT := by
  rintro F H x y d1 d2 q Q s r1 r2 ⟨as, bs, rfl, rfl, hn, hl, hq⟩ k
  cases r1 with
  | @tup a xs _ h1 r1 =>
    cases r2 with
    | @tup b ys _ h2 r2 =>
      refine ⟨a, b, xs, ys, rfl, rfl, SqT_mono s h1, SqT_mono s h2, fun z => hn ?_, by rw [r1.length, r2.length]; exact Nat.le_of_lt (small1000 hl), fun z => ?_, fun z p hp => ?_⟩
      · subst z; cases r1; rfl
      · subst z
        cases r2
        exact k _ (.tup as) F H (.refl _ _ _) s (.tup h1 r1) (by rw [List.append_nil] at hq; exact hq)
      · obtain ⟨x1, x2⟩ := new_ext (o := .tup (xs ++ ys)) s hp
        exact k _ (.tup (as ++ bs)) _ _ x1 x2 (.tup (.inl (.inl upd_same)) ((r1.append r2).mono (new_same s hp))) hq
/-- an own list becomes data where it stands -/
def wFrz (i : Nat) : EW := fun τ q _ => ∃ p es, τ[i]? = some (.own p (.lst es)) ∧ q (.lst es) (τ.set i (.dat (.lst es)))
theorem de_frz (i : Nat) : DE K W (tVar i) (wFrz i) := by
  refine ⟨fun σ H τ F Q q e S ⟨p, es, e0, hq⟩ k _ => ?_⟩
  obtain ⟨s0, f0, vs0, h0, r0⟩ := own_lst S e0
  have hi : i < τ.length := (List.getElem?_eq_some_iff.mp e0).1
  refine ⟨.ref p, s0, ?_⟩
  have s : Same F (upd F p (.lst vs0)) := same_upd f0
  refine k (.ref p) (.lst es) _ (upd F p (.lst vs0)) H ⟨⟨s, fun a u e => ?_, fun _ _ e _ _ => e, fun _ e => e, fun g => ⟨g.1, nt_upd nt_lst g.2⟩⟩, fun q h => .inl (isOwn_set (c := .dat (.lst es)) (fun a z => z) h), ⟨⟨S.tabs.1, nt_upd nt_lst S.tabs.2⟩, fun a u e => ?_, by rw [List.length_set]; exact S.len, fun j v c h1 h2 => ?_, fun j c e => ?_, S.inj.set fun a z => z.elim⟩⟩ (.lst upd_same (r0.mono s)) hq
  · by_cases q : a = p
    · subst q; exact .inr (.inr (isOwn_at e0))
    · rw [upd_ne q] at e; exact .inl e
  · by_cases q : a = p
    · subst q; rw [upd_same] at e; rw [h0]; exact e
    · rw [upd_ne q] at e; exact S.sub a u e
  · by_cases e : i = j
    · subst e
      rw [List.getElem?_set_self hi] at h2
      cases h2
      rw [s0] at h1
      cases h1
      exact ⟨.ref p, rfl, .lst upd_same (r0.mono s)⟩
    · rw [List.getElem?_set_ne e] at h2
      exact (S.slot j v c h1 h2).mono s
  · rcases set_get e with ⟨_, rfl, _⟩ | ⟨n, e⟩
    · exact trivial
    · refine (S.own j c e).move s fun a f => ⟨?_, fun u hu _ => hu⟩
      rw [upd_ne (fun z => n (S.inj j i c _ a e e0 f (.inl z)))]
      exact ((S.own j c e).has f).1
end
end L3


/-! ## own classes: an instance is made, its fields are set -/
namespace L3
open PySem PySem.Spec PyProof.Rows L2
variable [TB : TabT]
section
variable {K : PySem.W.Frag} {W : WX}
def putD (f : Str) (d : D) : List (Str × D) → List (Str × D)
  | [] => [(f, d)]
  | (g, e) :: r => if g = f then (g, d) :: r else (g, e) :: putD f d r
theorem frep_put {F : Hp} {f : Str} {v : V} {d : D} (h : Rep K F v d) : ∀ {vs : List (Str × V)} {ds : List (Str × D)}, FRep K F vs ds → FRep K F (putF f v vs) (putD f d ds)
  | _, _, .nil => .cons h .nil
  | _, _, .cons (f := g) (v := u) (vs := vs) r t => by
    unfold putF putD
    by_cases e : g = f
    · simp only [e, if_true]
      exact .cons h t
    · simp only [e, if_false]
      exact .cons r (frep_put h t)
theorem FRep.length {F : Hp} : ∀ {vs : List (Str × V)} {ds : List (Str × D)}, FRep K F vs ds → vs.length = ds.length
  | _, _, .nil => rfl
  | _, _, .cons _ r => by rw [List.length_cons, List.length_cons, FRep.length r]
/-- self.f = e, in a method that has the object for its own -/
def wFld (C : Addr) (i : Nat) (f : Str) (we : EW) : SW := fun E τ => we τ (fun d τ1 => ∃ p dx fs, τ1[i]? = some (.own p (.obj C dx fs)) ∧ fs.length < 1000 ∧ E.nx (τ1.set i (.own p (.obj C dx (putD f d fs))))) E.ex
theorem ds_fld {C : Addr} {i : Nat} {f : Str} {t : TE} {w : EW} (hc : Cls K C) (hn : NoAttr K C f) (h : DE K W t w) : DS K W (sFld K (tVar i) t f) (wFld C i f w) := by
  refine ⟨fun σ H τ F Dn E S hw o => h.run σ H τ F _ _ E.ex S hw (fun v d τ1 F1 H1 t1 r1 ⟨p, dx, fs, e0, hl, hq⟩ => ?_) o.xto⟩
  obtain ⟨s0, f0, ob, h0, r0⟩ := own_at t1.ok e0
  cases r0 with
  | @obj _ _ vs _ r0 =>
    refine ⟨.ref p, s0, p, C, dx, vs, rfl, h0, hc, hn, by rw [r0.length]; exact hl, ?_⟩
    exact o.nx σ _ F1 _ (to_change t1 e0 (.obj (frep_put r1 r0))) hq
/-- an instance whose fields nobody looks at -/
def wMkO (C : Addr) (n : Nat) (fs : FS) (wa : AW) : EW := fun τ q e => wa τ (fun ds τ' => ds.length = n ∧ ∀ x dx, fs (.own x (.obj C dx []) :: ds.map .dat) (fun d cs' => d = .non ∧ (∃ gs, cs'[0]? = some (.own x (.obj C dx gs))) ∧ q (.oth (.ref C)) τ') noX) e
theorem reps_slots {F : Hp} : ∀ {vs : List V} {ds : List D}, Reps K F vs ds → ∀ (i : Nat) (s : Option V) (c : Cell), (vs.map some)[i]? = some s → (ds.map Cell.dat)[i]? = some c → SlotOk K F s c
  | _, _, .nil, i, s, c, h, _ => by simp at h
  | _, _, .cons r t, 0, s, c, h, h' => by
    cases h
    cases h'
    exact ⟨_, rfl, r⟩
  | _, _, .cons r t, i + 1, s, c, h, h' => reps_slots t i s c (by simpa using h) (by simpa using h')
theorem mk_has {a C dx x : Addr} {ds : List D} {i : Nat} {c : Cell} (e : (Cell.own a (.obj C dx []) :: ds.map Cell.dat)[i]? = some c) (f : Has c x) : i = 0 ∧ x = a := by
  cases i with
  | zero => cases e; exact ⟨rfl, flat_has (k := .obj C dx []) trivial f⟩
  | succ i =>
    rw [List.getElem?_cons_succ, List.getElem?_map] at e
    cases q : ds[i]? with
    | none => rw [q] at e; cases e
    | some d => rw [q] at e; cases e; exact f.elim
theorem mk_own {F H : Hp} {a C dx : Addr} {ds : List D} (fa : F a = none) (h : H a = some (.ins C dx [])) : OwnOk K F H (Cell.own a (.obj C dx []) :: ds.map Cell.dat) := fun i c e => by
  cases i with
  | zero => cases e; exact .flat trivial fa h (.obj .nil)
  | succ i =>
    rw [List.getElem?_cons_succ, List.getElem?_map] at e
    cases q : ds[i]? with
    | none => rw [q] at e; cases e
    | some d => rw [q] at e; cases e; exact trivial
theorem mk_inj {a C dx : Addr} {ds : List D} : InjOk (Cell.own a (.obj C dx []) :: ds.map Cell.dat) := fun i j c d x h1 h2 f1 f2 => by
  rw [(mk_has h1 f1).1, (mk_has h2 f2).1]
theorem mk_isOwn {a C dx x : Addr} {ds : List D} (h : IsOwn (Cell.own a (.obj C dx []) :: ds.map Cell.dat) x) : x = a := by
  obtain ⟨i, c, e, f⟩ := h
  exact (mk_has e f).2
theorem de_makeO {C : Addr} {n : Nat} {fs : FS} {t : TA} {w : AW} (c : InsTy K C) (h : DA K W t w) : DE K W (tMake C (spOf K (n + 1) fs) [] (fun _ _ _ => False) t) (wMkO C n fs w) := by
  refine ⟨fun σ H τ F Q q e S hw k x => h.run σ H τ F _ _ e S hw (fun vs ds τ' F' H' t' r ⟨hl, hf⟩ a dx ha hdx hne => ?_) x⟩
  have fa := new_not_data t'.ok ha
  have fdx := new_not_data t'.ok hdx
  have ha1 : (upd H' dx (.own a)) a = none := by rw [upd_ne (fun z => hne z.symm)]; exact ha
  have s2 : Same F' (upd (upd H' dx (.own a)) a (.ins C dx [])) := fun b o e => by
    rw [upd_ne (fun z => by rw [z, fa] at e; cases e), upd_ne (fun z => by rw [z, fdx] at e; cases e)]
    exact t'.ok.sub b o e
  refine ⟨by simp [r.length, hl], F', .own a (.obj C dx []) :: ds.map .dat, _, _, ⟨⟨tabs_new ha1 (tabs_new hdx t'.ok.tabs.1), t'.ok.tabs.2⟩, s2, by simp [r.length], fun i s cc h1 h2 => ?_, mk_own fa upd_same, mk_inj⟩, hf a dx, fun v d cs' F3 H3 x3 s3 c3 r3 ⟨ed, ⟨gs, e0⟩, hq⟩ => ?_, fun _ _ _ _ _ _ _ _ _ _ z => z⟩
  · cases i with
    | zero => cases h1; cases h2; exact rfl
    | succ i => exact reps_slots r i s cc (by simpa only [List.map_cons, List.getElem?_cons_succ, List.append_nil] using h1) (by simpa only [List.getElem?_cons_succ] using h2)
  · subst ed
    refine ⟨by cases r3; rfl, ?_⟩
    obtain ⟨f3, ob, h3, rep, _⟩ := c3.own 0 _ e0
    cases rep with
    | @obj _ _ us _ rep =>
      have e4 : Ext [] F' H' (upd F3 a (.ins C dx us)) H3 := by
        refine ⟨fun b o e => ?_, fun b o e => ?_, fun b o e _ nt => ?_, fun b e => ?_, fun z => ⟨(x3.tabs ⟨tabs_new ha1 (tabs_new hdx z.1), z.2⟩).1, nt_upd nt_ins (x3.tabs ⟨tabs_new ha1 (tabs_new hdx z.1), z.2⟩).2⟩⟩
        · rw [upd_ne (fun z => by rw [z, fa] at e; cases e)]
          exact x3.f b o e
        · by_cases z : b = a
          · subst z; exact .inr (.inl (fr_none ha))
          · rw [upd_ne z] at e
            rcases x3.new b o e with y | y | y
            · exact .inl y
            · refine .inr (.inl ?_)
              by_cases z2 : b = dx
              · rw [z2]; exact fr_none hdx
              · exact fun o' e' => y o' (by rw [upd_ne z, upd_ne z2]; exact e')
            · exact absurd (mk_isOwn y) z
        · have n1 : b ≠ a := fun z => by rw [z, ha] at e; cases e
          have n2 : b ≠ dx := fun z => by rw [z, hdx] at e; cases e
          refine x3.keep b o (by rw [upd_ne n1, upd_ne n2]; exact e) (fun y => n1 (mk_isOwn y)) nt
        · have y := x3.there b e
          by_cases n1 : b = a
          · rw [n1]; exact fr_none ha
          · by_cases n2 : b = dx
            · rw [n2]; exact fr_none hdx
            · exact fun o' e' => y o' (by rw [upd_ne n1, upd_ne n2]; exact e')
      have sub4 : Same (upd F3 a (.ins C dx us)) H3 := fun b o e => by
        by_cases z : b = a
        · subst z; rw [upd_same] at e; rw [h3]; exact e
        · rw [upd_ne z] at e; exact s3 b o e
      exact k _ _ τ' _ H3 (t'.trans (.small t'.ok e4 sub4)) (.oth (.base (.ins upd_same c.cl c.ha c.hn c.ht c.hm))) hq
end
end L3


/-! ## a lambda that is handed to a def which calls it under try -/
namespace L3
open PySem PySem.Spec PyProof.Rows L2
variable [TB : TabT]
section
variable {K : PySem.W.Frag} {W : WX}
theorem pss_ex {X : Cx} {st : List Stmt} {ι : Type} {P : ι → Prop} {t : ι → TS} (h : ∀ i, P i → PSs X st (t i)) : PSs X st (fun D σ H => ∃ i, P i ∧ (σ.length = X.N.length → t i D σ H)) :=
  ⟨fun pins s σ H D I ⟨i, hp, hq⟩ => (h i hp).run pins s σ H D I (hq I.len)⟩
theorem reps_bls {F : Hp} : ∀ {bs : List Bool}, Reps K F (bs.map V.bl) (bs.map D.bl)
  | [] => .nil
  | b :: bs => .cons (.bl b) (reps_bls (bs := bs))
end
end L3

/-! ## the frame of a law that hands lambdas about -/
namespace L3
open PySem PySem.Spec PyProof.Rows L2
variable [TB : TabT]
/-- a def whose code object is known -/
theorem def_okC {P : Program} {w : World} {K : PySem.W.Frag} {mg : Str → Option Value} {base : Heap} {x qual : Str} {st : Stmt} {f : Addr} {N ps : List Str} {k : Nat} {fs : FS} {wb : SW} {kV doc pm cdv ct oc : Value} {an od : Option Addr} {osl : Array (Option Value)}
    (lk : K.lookup f = some ⟨oc, od, .func (PySem.W.fnOf x qual (defArgs st) (defBody st) (defScope st) .none kV doc pm an cdv ct), osl⟩) (hcd : PySem.W.codeIn K cdv qual = true) (S : FnScope N ps (defScope st))
    (hw : ∀ cs q e, cs.length = ps.length → fs cs q e → wb { nx := fun τ => Keeps cs τ ∧ q .non (ends cs τ), rt := fun d τ => Keeps cs τ ∧ q d (ends cs τ), rf := fun _ _ => False, bk := fun _ => False, ct := fun _ => False, ex := fun x τ => Keeps cs τ ∧ e x (ends cs τ) } (cs ++ List.replicate (N.length - ps.length) .any))
    (hb : ∀ (A : Around) (outer : List Env) (s : Shared) (H : Hp) (E : XK), Room k (A.deeper (envOfC qual (defScope st) s.heap.objs.size f cdv)) → Takes (cxOf (L2.CX P w) P w K mg base N qual (defScope st) f cdv A outer s H E) (fun cls d _ H => E cls d H) →
      ∃ t, PSs (cxOf (L2.CX P w) P w K mg base N qual (defScope st) f cdv A outer s H E) (defBody st) t ∧ DS K (fun cls d _ H => E cls d H) t wb) :
    FnOk P w K mg base (L2.CX P w) (k + 1) f (PySem.W.fnOf x qual (defArgs st) (defBody st) (defScope st) .none kV doc pm an cdv ct) ps (spOf K ps.length fs) := by
  refine fn_of lk hcd S (fun vs H Q E h => h.1) (fun A outer s H vs Q E hr h => ?_)
  obtain ⟨t, h1, h2⟩ := hb A outer s H E hr (takes_of rfl rfl rfl rfl)
  refine ⟨t, h1, ?_⟩
  obtain ⟨hl, F, cs, q, e, S0, hf, kq, ke⟩ := h
  obtain ⟨lcs, S1⟩ := s_ok (N := N) S0 hl
  refine h2.run _ H _ F _ _ S1 (hw cs q e lcs hf) ⟨fun σ' τ' F' H' u ⟨k, hq⟩ => ?_, fun _ _ _ _ _ z => z, fun _ _ _ _ _ z => z, fun v d τ' F' H' u r ⟨k, hq⟩ => ?_, fun σ' x cls dx τ' F' H' u r ⟨k, hq⟩ => ?_, ?_, fun _ _ _ _ _ _ _ _ z => z.elim⟩
  · exact kq .non .non _ F' H' u.ext.app u.ok.sub (cs_ok k u.ok.own u.ok.inj u.grow.app) .non hq
  · exact kq v d _ F' H' u.ext.app u.sub (cs_ok k u.own u.inj u.grow.app) r hq
  · exact ke x cls dx _ F' H' u.ext.app u.ok.sub (cs_ok k u.ok.own u.ok.inj u.grow.app) r hq
  · exact fun _ _ _ _ _ _ _ _ z => False.elim z
end L3

/-! ## lcm, max -/
namespace L3
open PySem PySem.Spec PyProof.Rows L2
variable [TB : TabT]
section
variable {K : PySem.W.Frag} {W : WX}
end
end L3

/-! ## instances as data, errors with a field -/
namespace L3
open PySem PySem.Spec PyProof.Rows L2
variable [TB : TabT]
/-- isinstance(e, c), e the caught error, which has a dict -/
def rIsE1 (K : PySem.W.Frag) (D a : Addr) (d : Option Addr) : List V → Hp → VK → Prop := fun xs H Q => ∃ (c : V) (cv : Value) (b : Bool) (dd : Addr) (fs : List (Str × V)), xs = [.ref a, c] ∧ (∀ u, RelV c u → u = cv) ∧ PySem.W.kitOne K (.ref D) cv = some b ∧ d = some dd ∧ H dd = some (.xd fs) ∧ Q (.bl b) H
theorem call_isE1 {X : Cx} {a D : Addr} {d : Option Addr} {oe : Obj} {pn : List (Addr × Obj)} (C : ExcC X.K D) (hz : Zc (.ref D) d oe) (hf : ∃ vs, oe.data = .fields vs) : CallR (X.suite a ((a, oe) :: pn)) (.builtin "isinstance") (rIsE1 X.K D a d) := by
  intro pins s σ H xs us Q I r h
  obtain ⟨c, cv, b, dd, fs, rfl, hcv, e, rfl, hdd, q⟩ := h
  cases r with
  | cons rx rr =>
    cases rr with
    | cons rt rr =>
      cases rr
      cases rx
      have ec := hcv _ rt
      subst ec
      obtain ⟨hget, _⟩ := I.pin (a, oe) (List.mem_append.mpr (.inl List.mem_cons_self))
      obtain ⟨vs, hv⟩ := hf
      have hx : ObjOk X.prog X.w H s.heap dd (.xd fs) := I.hok dd _ hdd
      obtain ⟨mA, hns, hr⟩ := hx
      obtain ⟨od, ho, hl⟩ := lookIn_ns hns
      have J : PySem.W.InstAt s.heap a oe D (some od) := ⟨hget, hz.1, by unfold PySem.W.notCls; rw [hv] <;> rfl, by rw [hz.2]; exact ho⟩
      have hcl : (PySem.W.clsIn X.K D).isSome = true := by
        obtain ⟨cd, hc, _⟩ := PySem.W.any_some C.hd
        rw [hc]
        rfl
      exact PySem.W.kia_one (PySem.W.kitx_exc hcl C.hg C.hk C.hs C.ha C.hn C.ht C.hm) I.kIn J e (fun z => nomatch z) fun tk => ⟨.bl b, H, I.kept (t' := tk) fun _ _ z => z, rfl, q⟩
section
variable {K : PySem.W.Frag} {W : WX}
theorem FRep.lookup {F : Hp} {f : Str} {d : D} : ∀ {vs : List (Str × V)} {ds : List (Str × D)}, FRep K F vs ds → ds.lookup f = some d → ∃ v, vs.lookup f = some v ∧ Rep K F v d
  | _, _, .nil, e => by simp at e
  | _, _, .cons (f := g) (v := u) r t, e => by
    unfold List.lookup at e ⊢
    cases h : f == g with
    | true =>
      rw [h] at e
      cases e
      exact ⟨u, rfl, r⟩
    | false =>
      rw [h] at e
      exact FRep.lookup t e
/-! ### an error with one field -/
def spX1 (K : PySem.W.Frag) (C : Addr) (f : Str) : Sp := fun vs H Q _ => ∃ (a : Addr) (v : V), vs = [.ref a, v] ∧ H a = some (exo a C none) ∧ ∀ dx, H dx = none → dx ≠ a → Q .non (upd (upd H dx (exd dx [(f, v)])) a (exo a C (some dx)))
theorem exc1_ok {P : Program} {w : World} {mg : Str → Option Value} {base : Heap} {x qual f : Str} {st : Stmt} {fa C : Addr} {fd : FuncData} {p1 p2 p3 p4 : Pos} (Fn : Fun K x qual st fa fd) (S : FnScope ["self", f] ["self", f] (defScope st))
    (hb : defBody st = [.Assign [.Attribute (.Name "self" p1) f p2] (.Name f p3) p4]) (hf : ("self" : Str) ≠ f)
    (hs : ∀ X : Cx, swapsWith (.Name f p3) (some (.Attribute (.Name "self" p1) f p2)) p4.line X.env = pure false) (T : OexC K C) (hno : PySem.W.findIn K (.ref C) f = some none)
    (hp : ∀ (cdv : Value) (A : Around) (outer : List Env) (s : Shared) (H : Hp) (E : XK), PE (cxOf (L2.CX P w) P w K mg base ["self", f] qual (defScope st) fa cdv A outer s H E) (.Name "self" p1) (tVar 0) ∧ PE (cxOf (L2.CX P w) P w K mg base ["self", f] qual (defScope st) fa cdv A outer s H E) (.Name f p3) (tVar 1)) :
    FnOk P w K mg base (L2.CX P w) 1 fa fd ["self", f] (spX1 K C f) := by
  refine Fn.okX S (fun vs H Q E ⟨a, v, e, _⟩ => by rw [e]; rfl) (fun cdv A outer s H vs Q E hr h => ?_)
  obtain ⟨h0, h1⟩ := hp cdv A outer s H E
  obtain ⟨a, v, rfl, ha, hq⟩ := h
  rw [hb]
  refine ⟨_, pss_one (ps_ost (hs := hs _) h0 h1), ?_⟩
  exact ⟨v, rfl, .ref a, rfl, a, C, rfl, T, hno, .inl ⟨ha, fun dx h1 h2 => hq dx h1 h2⟩⟩
def wRaise1 (C : Addr) (f : Str) (we : EW) : SW := fun E τ => we τ (fun d τ' => E.ex ⟨C, [(f, d)]⟩ τ') E.ex
theorem del_back {H1 : Hp} {a d C : Addr} {fs : List (Str × V)} (ha : H1 a = none) (hda : d ≠ a) : upd (del (upd (upd (upd H1 a (exo a C none)) d (exd d fs)) a (exo a C (some d))) a) d (.xd fs) = upd H1 d (.xd fs) := by
  funext b
  by_cases h1 : b = d
  · rw [h1, upd_same, upd_same]
  · rw [upd_ne h1, upd_ne h1]
    by_cases h2 : b = a
    · rw [h2, del_same, ha]
    · rw [del_ne h2, upd_ne h2, upd_ne h1, upd_ne h2]
/-- what stands behind the making of such an error -/
theorem mk1_run {C : Addr} {f : Str} {v : V} {d : D} {F H : Hp} {σ : L2.St} {τ : List Cell} {Q : XK} (S : SOk K F H σ τ) (r : Rep K F v d)
    (h : ∀ dx, To K F H σ τ F (upd H dx (.xd [(f, v)])) τ → Q (.ref C) (some dx) (upd H dx (.xd [(f, v)]))) :
    [v].length ≤ 1000 ∧ ∀ a, H a = none → spX1 K C f (.ref a :: ([v] ++ [])) (upd H a (exo a C none))
      (fun u H2 => u = .non ∧ ∃ (d : Addr) (fs : List (Str × V)), H2 a = some (exo a C (some d)) ∧ H2 d = some (exd d fs) ∧ H d = none ∧ Q (.ref C) (some d) (upd (del H2 a) d (.xd fs))) (fun _ _ _ => False) := by
  refine ⟨by simp, fun a ha => ⟨a, v, rfl, upd_same, fun dx hd hne => ⟨rfl, dx, [(f, v)], upd_same, ?_, ?_, ?_⟩⟩⟩
  · rw [upd_ne hne, upd_same]
  · rw [upd_ne hne] at hd; exact hd
  · rw [del_back ha hne]
    rw [upd_ne hne] at hd
    refine h dx (.small S (Ext.laid0 hd) fun b o e => ?_)
    rw [upd_ne (fun z => by rw [z, new_not_data S hd] at e; cases e)]
    exact S.sub b o e
theorem ds_raise1 {C : Addr} {f : Str} {t : TE} {w : EW} (h : DE K W t w) : DS K W (fun _ σ H => tMkO C (spX1 K C f) [] (tCons t tNil) σ H fun cls d H' => W cls d σ H') (wRaise1 C f w) := by
  refine ⟨fun σ H τ F Dn E S hw o => h.run σ H τ F _ _ E.ex S hw (fun v d τ1 F1 H1 t1 r1 hq => ?_) o.xto⟩
  refine mk1_run (C := C) (f := f) (Q := fun cls d H' => W cls d σ H') t1.ok r1 fun dx t2 => ?_
  exact o.ex σ ⟨C, [(f, d)]⟩ _ (some dx) τ1 F1 _ (t1.trans t2) ⟨rfl, .inr ⟨by simp, dx, _, rfl, upd_same, .cons r1 .nil⟩⟩ hq
/-! ### what a def does that calls what it is handed, and an error with a field comes -/
end
theorem pe_toldG {TT : (XK → Hp → VK → Prop) → Hp → VK → Prop} {X : Cx} {st : Stmt} {x a : Str} {g c P : Addr} {fd : FuncData} {k : Nat} {Ng : List Str} {params : Arguments} {body : Expr} {scope : Scope} {t : XK → TE} {p lpos pos : Pos}
    (F : Fun X.K x x st g fd) (hb : L2.Binds X.K fd [a] []) (hg : Gl X x) (hm : X.mg x = some (.ref g)) (Sg : FnScope Ng [a] (defScope st)) (hNg : Ng[0]? = some a) (hva : Vis (defScope st) a)
    (hG : ∀ cdv, LamX.GivesTo X Ng x (defScope st) g cdv (defBody st) a (X.env.qual ++ "<lambda>") TT) (hT : LamX.TabB X.base X.mg c P) (hcode : X.env.code = .ref c)
    (hmT : (P, X.env.qual ++ Str.ofString "<lambda>") ∈ TB.T) (hu : ∀ p ∈ TB.T, p.1 = P → p.2 = X.env.qual ++ Str.ofString "<lambda>") (hr : Room (k + 2) X.A) (L : LamX.LamS X.env.scope scope) (hdef : defaultsOf params X.env = ([], []))
    (hbind : ∀ (q : Str) (cl : List (Str × Addr)) (pm cv ctv : Value), bindArgs (PySem.W.kla_fn (Str.ofString "<lambda>") q params body scope cl pm cv ctv) {} = pure [])
    (hbody : ∀ (A : Around) (outer : List Env) (s : Shared) (H : Hp) (E : XK) (f c' : Addr), Room k (A.deeper (LamX.lamEnv X scope s.heap.objs.size f c')) → PE (LamX.lamCx X A outer s H E scope f c') body (t E))
    (h1 : (x == Str.ofString "__debug__") = false := by decide) (h2 : (a == Str.ofString "__debug__") = false := by decide) (h3 : (a == Str.ofString "__classdict__") = false := by decide) :
    PE X (.Call (.Name x p) [.Lambda params body scope lpos] [] pos) (LamX.tLam TB.T TT t) := by
  obtain ⟨oc, od, kV, doc, pm, an, cdv, ct, osl, rfl, lk, hcg⟩ := F.ex
  exact LamX.pe_lamcall hg hm F.kp lk hcg hb Sg hNg hva (hG cdv) hT hcode hmT hu hr L hdef hbind hbody h1 h2 h3
/-! ### a chain of three comparisons -/
section
variable {K : PySem.W.Frag} {W : WX}
end
end L3

/-! ## tuples: + and slices of any kind, order of pairs; truth of a sequence -/
namespace L3
open PySem PySem.Spec PyProof.Rows L2
variable [TB : TabT]
section
variable {K : PySem.W.Frag} {W : WX}
end
end L3

/-! ## enumerate of a list, any, min, in, x[i] += e, a comprehension that is the frame's own -/
namespace L3
open PySem PySem.Spec PyProof.Rows L2
variable [TB : TabT]
theorem ixN_ltN {n j : Nat} (h : j < n) : ixN n (j : Int) = some j := by
  unfold ixN
  rw [if_pos (by omega)]
  simp
  omega
section
variable {K : PySem.W.Frag} {W : WX}
theorem it_enum {F : Hp} {a : Addr} {xs : List V} {ds : List D} (h : SqL K F a xs) (r : Reps K F xs ds) : ItOk K F (Ite K a) (ds.mapIdx fun i d => .tup [.int i, d]) := by
  refine ⟨fun i F2 H s s2 hi => ?_, fun F2 H s s2 => ⟨xs, s2.seq (s.seq h), by rw [List.length_mapIdx, r.length]; exact Nat.le_refl _⟩, fun i F2 H x H' s s2 hi y => ?_⟩
  · rw [List.length_mapIdx, ← r.length] at hi
    exact ⟨xs, xs[i], s2.seq (s.seq h), List.getElem?_eq_getElem hi⟩
  · obtain ⟨T, x', rfl, hT, rfl, e⟩ := y
    obtain ⟨d, e1, e2⟩ := (r.mono s).get (e xs (s2.seq (s.seq h)))
    obtain ⟨x1, x2⟩ := new_ext (o := .tup [.int i, x']) s2 hT
    refine ⟨.tup [.int i, d], _, by rw [List.getElem?_mapIdx, e1]; rfl, x1, x2, .tup (.inl (.inl upd_same)) (.cons (.int _) (.cons (e2.mono (new_same s2 hT)) .nil))⟩
end
end L3

/-! ## == and != of instances with an own ==, with anything, either way round -/
namespace HN2
open PySem PySem.Spec PyProof.Rows PySem.SeqAt
section
variable {M : Model} {prog : Program} {w : World} {A : Around} {E : Value → Shared → Prop} {s : Shared} {K : PySem.W.Frag} {x C f : Addr} {ox : Obj} {od : Option Obj} {b : Value}
end
end HN2
namespace HN2
open PySem PySem.Spec PyProof.Rows PySem.SeqAt
section
variable {M : Model} {prog : Program} {w : World} {A : Around} {E : Value → Shared → Prop} {s : Shared} {K : PySem.W.Frag} {x C dx : Addr} {od : Option Obj}
end
end HN2
namespace HN2
open PySem PySem.Spec PyProof.Rows PySem.SeqAt
section
variable {prog : Program} {w : World} {A : Around} {E : Value → Shared → Prop} {s : Shared} {K : PySem.W.Frag} {x C dx : Addr} {od : Option Obj}
end
end HN2
namespace L2
open PySem PySem.Spec PyProof.Rows
/-- a thing that is no instance: its kind -/
inductive KindV (K : PySem.W.Frag) (H : Hp) : V → String → Prop where
  | non : KindV K H .non "NoneType"
  | bl (x : Bool) : KindV K H (.bl x) "bool"
  | int (i : Int) : KindV K H (.int i) "int"
  | str (x : Str) : KindV K H (.str x) "str"
  | tup {a : Addr} {xs : List V} (e : SqT K H a xs) : KindV K H (.ref a) "tuple"
  | lst {a : Addr} {xs : List V} (e : SqL K H a xs) : KindV K H (.ref a) "list"
  | dct {a : Addr} (e : TyX K H (.ref a) (.type "dict")) : KindV K H (.ref a) "dict"
section
variable {X : Cx} {pins : List (Addr × Obj)} {σ : St} {H : Hp} {s : Shared} {x : V} {u : Value} {T : String}
end
/-- what a class with an own == and no other != must have -/
structure OwnCmp (K : PySem.W.Frag) (C g : Addr) : Prop where
  eq : PySem.W.findIn K (.ref C) "__eq__" = some (some (.ref g))
  ne : PySem.W.findIn K (.ref C) "__ne__" = some (some (.builtin "object.__ne__"))
  fn : PySem.W.isFn K (.ref g) = true
  top : PySem.W.mroIn K C (.type "object") = some true
section
variable {X : Cx} {CX : CXT} {C g : Addr} {n : Nat} {sp : Sp} {E : XK}
end
end L2
namespace L3
open PySem PySem.Spec PyProof.Rows L2
variable [TB : TabT]
variable {K : PySem.W.Frag} {W : WX}
/-- an operation that may call defs of the text -/
def Op2T (K : PySem.W.Frag) (r : R2) (g : D → D → (D → Prop) → Prop) : Prop :=
  ∀ (F H F0 H0 : Hp) (σ : L2.St) (τ τ0 : List Cell) (v1 v2 : V) (d1 d2 : D) (q : D → Prop) (Q : VK), To K F0 H0 σ τ0 F H τ → Rep K F v1 d1 → Rep K F v2 d2 → g d1 d2 q →
    (∀ v d F' H', To K F0 H0 σ τ0 F' H' τ → Rep K F' v d → q d → Q v H') → r v1 v2 H Q
end L3

/-! ## isinstance with a class of the text -/
namespace L3
open PySem PySem.Spec PyProof.Rows L2
variable [TB : TabT]
variable {K : PySem.W.Frag} {W : WX}

end L3

namespace L2
open PySem PySem.Spec PyProof.Rows
end L2

/-! ## the pool, while, pop, remove, lists of one's own out of others, try .. except -/
namespace L3
open PySem PySem.Spec PyProof.Rows L2
variable [TB : TabT]
section
variable {K : PySem.W.Frag} {W : WX}
/-- a cell is exchanged -/
theorem SOk.change {F H : Hp} {σ : L2.St} {τ : List Cell} {i : Nat} {c c' : Cell} (S : SOk K F H σ τ) (h : τ[i]? = some c) (co : CellOk K F H c') (sl : ∀ s, SlotOk K F s c → SlotOk K F s c') (less : ∀ a, Has c' a → Has c a ∨ ¬ IsOwn τ a) : SOk K F H σ (τ.set i c') := by
  refine ⟨S.tabs, S.sub, by rw [List.length_set]; exact S.len, fun j s d h1 h2 => ?_, fun j d e => ?_, S.inj.set fun a f j d nj e f2 => ?_⟩
  · rcases set_get h2 with ⟨rfl, rfl, _⟩ | ⟨_, h2⟩
    · exact sl s (S.slot j s _ h1 h)
    · exact S.slot j s d h1 h2
  · rcases set_get e with ⟨_, rfl, _⟩ | ⟨_, e⟩
    · exact co
    · exact S.own j d e
  · rcases less a f with z | z
    · exact nj (S.inj j i d c a e h f2 z)
    · exact z ⟨j, d, e, f2⟩
end
section
variable {K : PySem.W.Frag} {W : WX}
end
theorem ixN31 : ixN 3 1 = some 1 := by decide
end L3

/-! ## is True, is False -/
namespace L3
open PySem PySem.Spec PyProof.Rows L2
variable [TB : TabT]
section
variable {K : PySem.W.Frag}
end
end L3

/-! ## in a list, not in a tuple, a list put together as one's own -/
namespace L3
open PySem PySem.Spec PyProof.Rows L2
variable [TB : TabT]
section
variable {K : PySem.W.Frag} {W : WX}
end
end L3

/-! ## zip of a tuple and a list, either way round -/
namespace L3
open PySem PySem.Spec PyProof.Rows L2
variable [TB : TabT]
section
variable {K : PySem.W.Frag} {W : WX}
end
end L3

/-! ## list(range(..)), range down, max, min and sum of a list -/
namespace L3
open PySem PySem.Spec PyProof.Rows L2
variable [TB : TabT]
section
variable {K : PySem.W.Frag} {W : WX}
theorem Reps.three {F : Hp} {xs : List V} {d d' d'' : D} (h : Reps K F xs [d, d', d'']) : ∃ v v' v'', xs = [v, v', v''] ∧ Rep K F v d ∧ Rep K F v' d' ∧ Rep K F v'' d'' := by
  cases h with
  | cons h t => obtain ⟨u, u', rfl, r, r'⟩ := Reps.two t; exact ⟨_, _, _, rfl, h, r, r'⟩
/-- one way or the other -/
def wEor (a b : EW) : EW := fun τ q e => a τ q e ∨ b τ q e
theorem de_eor {t : TE} {a b : EW} (ha : DE K W t a) (hb : DE K W t b) : DE K W t (wEor a b) :=
  ⟨fun σ H τ F Q q e S h k x => h.elim (fun h => ha.1 σ H τ F Q q e S h k x) (fun h => hb.1 σ H τ F Q q e S h k x)⟩
end
end L3

/-! ## a comprehension over an own list -/
namespace L3
open PySem PySem.Spec PyProof.Rows L2
variable [TB : TabT]
section
variable {K : PySem.W.Frag} {W : WX}
end
end L3

/-! ## *e in a tuple display or in the arguments of a call -/
namespace L3
open PySem PySem.Spec PyProof.Rows L2
variable [TB : TabT]
section
variable {K : PySem.W.Frag} {W : WX}
end
end L3

/-! ## own lists that a def hands back by a comprehension, that are compared, or taken as data -/
namespace L3
open PySem PySem.Spec PyProof.Rows L2
variable [TB : TabT]
section
variable {K : PySem.W.Frag} {W : WX}
end
end L3

/-! ## sorted(set(x)), x a tuple of integers -/
namespace L3
open PySem PySem.Spec PyProof.Rows L2
variable [TB : TabT]
section
variable {K : PySem.W.Frag} {W : WX}
end
end L3

/-! ## except C as x, where x is but asked of by isinstance -/
namespace L3
open PySem PySem.Spec PyProof.Rows L2
variable [TB : TabT]
section
variable {K : PySem.W.Frag} {W : WX}
/-- what a handler ends in: its name is gone -/
def offE (i : Nat) (E : EndsD) : EndsD := { E with nx := fun τ => E.nx (τ.set i .any), bk := fun τ => E.bk (τ.set i .any), ct := fun τ => E.ct (τ.set i .any) }
end
end L3
namespace L3
open PySem PySem.Spec PyProof.Rows L2
variable [TB : TabT]
end L3
namespace L3
open PySem PySem.Spec PyProof.Rows L2
variable [TB : TabT]
end L3
namespace L3
open PySem PySem.Spec PyProof.Rows L2
end L3
namespace L3
open PySem PySem.Spec PyProof.Rows L2
variable [TB : TabT]
theorem Op2.t {K : PySem.W.Frag} {r : R2} {g : D → D → (D → Prop) → Prop} (h : Op2 K r g) : Op2T K r g := fun F H F0 H0 σ τ τ0 v1 v2 d1 d2 q Q t a b hg k =>
  h F H v1 v2 d1 d2 q Q t.ok.sub a b hg fun v d F' H' x s r hq => k v d F' H' (t.trans (.small t.ok x s)) r hq
end L3

/-! ## xs.count(True), xs.index(True) of a list of flags -/
namespace L3
open PySem PySem.Spec PyProof.Rows L2
variable [TB : TabT]
section
variable {K : PySem.W.Frag} {W : WX}
end
end L3

/-! ## zip of three, tuples or lists -/
namespace L3
open PySem PySem.Spec PyProof.Rows L2
variable [TB : TabT]
section
variable {K : PySem.W.Frag} {W : WX}
end
end L3

/-! ## a tuple, so many times -/
namespace L3
open PySem PySem.Spec PyProof.Rows L2
variable [TB : TabT]
section
variable {K : PySem.W.Frag} {W : WX}
end
end L3

/-! ## an own list out of [e] * n and of list(range(n)); x[k] -= e -/
namespace L3
open PySem PySem.Spec PyProof.Rows L2
variable [TB : TabT]
section
variable {K : PySem.W.Frag} {W : WX}
theorem Reps.rep {F : Hp} {xs : List V} {ds : List D} (h : Reps K F xs ds) : ∀ n : Nat, Reps K F (List.replicate n xs).flatten (List.replicate n ds).flatten
  | 0 => .nil
  | n + 1 => by
    rw [List.replicate_succ, List.replicate_succ, List.flatten_cons, List.flatten_cons]
    exact h.append (Reps.rep h n)
end
end L3

/-! ## x.pop(k) as a value; isinstance with a tuple of types -/
namespace L3
open PySem PySem.Spec PyProof.Rows L2
variable [TB : TabT]
section
variable {K : PySem.W.Frag} {W : WX}
/-- isinstance(e, (A, B)) -/
def wIsiT (K : PySem.W.Frag) (A B : String) (we : EW) : EW := fun τ q e => we τ (fun d τ' => ∃ b, TyOk K d ∧ PySem.W.kitAny K (tyD d) [.type A, .type B] = some b ∧ q (.bl b) τ') e
theorem de_isiT {A B : String} {t : TE} {w : EW} (h : DE K W t w) : DE K W (tCB (rIsiT K) (tCons t (tCons (tTup (tCons (tC (.ty A)) (tCons (tC (.ty B)) tNil))) tNil))) (wIsiT K A B w) := by
  refine ⟨fun σ H τ F Q q e S hw k x => ?_⟩
  refine h.run σ H τ F _ _ e S hw (fun v d τ1 F1 H1 t1 r1 ⟨b, ok, hb, hq⟩ => ?_) x
  refine ⟨(show (2 : Nat) ≤ sizeLine by decide), fun p hp => ?_⟩
  obtain ⟨x1, x2⟩ := new_ext (o := .tup [.ty A, .ty B]) t1.ok.sub hp
  have sm := new_same (o := .tup [.ty A, .ty B]) t1.ok.sub hp
  refine ⟨v, p, [.ty A, .ty B], _, [.type A, .type B], b, rfl, upd_same, .cons (.ty A) (.cons (.ty B) .nil), ?_, hb, ?_⟩
  · exact TyX_mono (x2) ((r1.mono sm).tyO ok)
  · exact k (.bl b) (.bl b) τ1 _ _ (t1.trans (.small t1.ok x1 x2)) (.bl b) hq
end
end L3

/-! ## x += e and x -= e, x a name that holds an int -/
namespace L3
open PySem PySem.Spec PyProof.Rows L2
variable [TB : TabT]
section
variable {K : PySem.W.Frag} {W : WX}
end
end L3

/-! ## a def that calls what it is handed and tells whether the error's field is a given number -/
namespace L3
open PySem PySem.Spec PyProof.Rows L2
variable [TB : TabT]
section
variable {K : PySem.W.Frag} {W : WX}
end
end L3

/-! ## dicts: of one's own, and as data -/
namespace L3
open PySem PySem.Spec PyProof.Rows L2
variable [TB : TabT]
section
variable {K : PySem.W.Frag} {W : WX}
def unA (x : Key × Addr × List Int) : Key × List Int := (x.1, x.2.2)
def dlD (kvs : List (Key × List Int)) : List (Key × D) := kvs.map fun x => (x.1, .lst (x.2.map D.int))
def dcOf : Cont → Option D
  | .dk kvs => some (.dc kvs)
  | .dt kvs => some (.dtc kvs)
  | .dl kvs => some (.dc (dlD (kvs.map unA)))
  | _ => none
theorem lt1 {k : Nat} {A : Around} (r : Room k A) : A.units + 1 < cLine := by have := r.un; omega
/-! ### the keys as data, d[k], k in d -/
theorem KRep.length {F : Hp} : ∀ {vs : List (Key × V)} {ds : List (Key × D)}, KRep K F vs ds → vs.length = ds.length
  | _, _, .nil => rfl
  | _, _, .cons _ r => by rw [List.length_cons, List.length_cons, KRep.length r]
theorem KRep.keys {F : Hp} : ∀ {vs : List (Key × V)} {ds : List (Key × D)}, KRep K F vs ds → vs.map Prod.fst = ds.map Prod.fst
  | _, _, .nil => rfl
  | _, _, .cons _ r => by rw [List.map_cons, List.map_cons, KRep.keys r]
def valD {α : Type} [DecidableEq α] (kvs : List (α × D)) (k : α) : Option D := (kvs.find? fun kv => decide (kv.1 = k)).map (·.2)
theorem KRep.val {F : Hp} (k : Key) : ∀ {vs : List (Key × V)} {ds : List (Key × D)}, KRep K F vs ds → (valV vs k = none ∧ valD ds k = none) ∨ ∃ v d, valV vs k = some v ∧ valD ds k = some d ∧ Rep K F v d
  | _, _, .nil => .inl ⟨rfl, rfl⟩
  | _, _, .cons (k := k') (v := v) (d := d) h r => by
    by_cases e : k' = k
    · refine .inr ⟨v, d, ?_, ?_, h⟩
      · simp [valV, List.find?_cons, e]
      · simp [valD, List.find?_cons, e]
    · have := KRep.val k r
      simpa [valV, valD, List.find?_cons, e] using this
/-! ### x = {} -/
/-! ### x.setdefault(k, []).append(v) -/
end
end L3

/-! ## a tuple times 1 -/
namespace L2
open PySem PySem.Spec PyProof.Rows
end L2
namespace L3
open PySem PySem.Spec PyProof.Rows L2
variable [TB : TabT]
section
variable {K : PySem.W.Frag} {W : WX}
end
end L3

/-! ## max and min of a tuple of numbers -/
namespace L2
open PySem PySem.Spec PyProof.Rows
end L2
namespace L3
open PySem PySem.Spec PyProof.Rows L2
variable [TB : TabT]
variable {K : PySem.W.Frag} {W : WX}
end L3

/-! ## long lists -/
namespace L3
open PySem PySem.Spec PyProof.Rows L2
variable [TB : TabT]
section
variable {K : PySem.W.Frag} {W : WX}
end
end L3

/-! ## long lists made by two loops -/
namespace L3
open PySem PySem.Spec PyProof.Rows L2
variable [TB : TabT]
section
variable {K : PySem.W.Frag} {W : WX}
end
end L3

/-! ## extend, and sorted(..) handed back as a new list -/
namespace L3
open PySem PySem.Spec PyProof.Rows L2
variable [TB : TabT]
section
variable {K : PySem.W.Frag} {W : WX}
/-- return x, x an own list that was made here -/
def wRetOwnG (i : Nat) : SW := fun E τ => ∃ p es, τ[i]? = some (.own p (.lst es)) ∧ E.rg (.lst es) (τ.set i .any)
theorem ds_retOwnG {i : Nat} : DS K W (tRet (tVar i)) (wRetOwnG i) := by
  refine ⟨fun σ H τ F Dn E S ⟨p, es, e0, hq⟩ o => ?_⟩
  obtain ⟨s0, f0, vs0, h0, r0⟩ := own_lst S e0
  refine ⟨.ref p, s0, ?_⟩
  refine o.rg p (.lst es) (τ.set i .any) F H ⟨Ext.refl _ _ _, fun q h => .inl (isOwn_set (c := .any) (fun a z => z) h), S.sub, fun j c e => ?_, S.inj.set fun a z => z.elim⟩ (S.own i _ e0) (fun a f => ⟨.inr ⟨i, _, e0, f⟩, fun ⟨j, c, e, g⟩ => ?_⟩) hq
  · rcases set_get e with ⟨_, rfl, _⟩ | ⟨_, e⟩
    · exact trivial
    · exact S.own j c e
  · rcases set_get e with ⟨_, rfl, _⟩ | ⟨n, e⟩
    · exact g
    · exact n (S.inj j i c _ a e e0 g f)
end
end L3

/-! ## one way or the other: a name that holds an own list at times, data at others -/
namespace L3
open PySem PySem.Spec PyProof.Rows L2
variable [TB : TabT]
section
variable {K : PySem.W.Frag} {W : WX} {X : Cx}
end
end L3

/-! ## len(set(x)), x a tuple of integers -/
namespace L3
open PySem PySem.Spec PyProof.Rows L2
variable [TB : TabT]
section
variable {K : PySem.W.Frag} {W : WX}
end
end L3

/-! ## sorted(set(x)), x a list of integers -/
namespace L3
open PySem PySem.Spec PyProof.Rows L2
section
variable {P : Program} {w : World} {A : Around} {E : Value → Shared → Prop} {s : Shared}
end
variable [TB : TabT]
section
variable {K : PySem.W.Frag} {W : WX}
end
end L3

/-! ## xs.index(k) of a list of ints -/
namespace L3
open PySem PySem.Spec PyProof.Rows L2
variable [TB : TabT]
section
variable {K : PySem.W.Frag} {W : WX}
end
end L3

/-! ## a = b = e, and errors with and without a field told alike -/
namespace L3
open PySem PySem.Spec PyProof.Rows L2
variable [TB : TabT]
/-- two names get one value -/
def tTwo (te : TE) (ga gb : TG) : TS := fun E s0 hp => te s0 hp fun v0 hp1 => ga v0 s0 hp1 fun s1 hp2 => gb v0 s1 hp2 E.nx
theorem ps_two {X : Cx} {ea eb e : Expr} {te : TE} {ga gb : TG} {pos : Pos} (he : PE X e te) (ha : PG X ea ga) (hb : PG X eb gb) (hA : (assignEach [ea, eb] X.env).map (·.2) = [assign ea X.env, assign eb X.env] := by rfl) (hS : swappedStores [ea, eb] e X.env = pure none := by rfl) : PS X (.Assign [ea, eb] e pos) (tTwo te ga gb) :=
  ⟨fun pn st s0 hp E J w => wpAny_Assign_two (thn (he.run pn st s0 hp _ J w) fun vv st1 ⟨y, hp1, J1, ry, w1⟩ => thn (ha.run pn st1 s0 hp1 y vv _ J1 ry w1) fun _ st2 ⟨s1, hp2, J2, w2⟩ => thn (hb.run pn st2 s1 hp2 y vv _ J2 ry w2) fun _ _ w3 => w3) hA hS⟩
section
variable {K : PySem.W.Frag} {W : WX}
def wAsg2 (we : EW) (w1 w2 : GW) : SW := fun E τ => we τ (fun d τ' => w1 d τ' fun τ1 => w2 d τ1 E.nx) E.ex
theorem ds_asg2 {t : TE} {w : EW} {vs1 vs2 : List Nat} {g1 g2 : TG} {wg1 wg2 : GW} (h : DE K W t w) (l1 : DG K vs1 g1 wg1) (l2 : DG K vs2 g2 wg2) : DS K W (tTwo t g1 g2) (wAsg2 w wg1 wg2) := by
  refine ⟨fun σ H τ F Dn E S hw o => h.run σ H τ F _ _ E.ex S hw (fun v d τ' F' H' t' r hq => ?_) o.xto⟩
  refine l1.run σ H' τ' F' v d _ _ t'.ok r hq fun σ2 τ2 S2 o2 _ _ q => ?_
  refine l2.run σ2 H' τ2 F' v d _ _ S2 r q fun σ3 τ3 S3 o3 _ _ q3 => ?_
  exact o.nx σ3 τ3 F' H' ((t'.at S2 o2).at S3 o3) q3
/-- isinstance(e, c), e the caught error, with a dict or without -/
def rIsE2 (K : PySem.W.Frag) (D a : Addr) (d : Option Addr) : List V → Hp → VK → Prop := fun xs H Q => (d = none ∧ rIsE K D a xs H Q) ∨ rIsE1 K D a d xs H Q
theorem call_isE3 {X : Cx} {a D : Addr} {d : Option Addr} {oe : Obj} {pn : List (Addr × Obj)} (C : ExcC X.K D) (hz : Zc (.ref D) d oe) (hf : ∃ vs, oe.data = .fields vs) : CallR (X.suite a ((a, oe) :: pn)) (.builtin "isinstance") (rIsE2 X.K D a d) := by
  intro pins s σ H xs us Q I r h
  rcases h with ⟨rfl, h⟩ | h
  · exact call_isE C hz hf pins s σ H xs us Q I r h
  · exact call_isE1 C hz hf pins s σ H xs us Q I r h
def toldE2 (K : PySem.W.Frag) (tell : Addr → List D → Prop) (Q : VK) : XK := fun cls d H' => ∃ (C : Addr) (bs : List Bool), cls = .ref C ∧ (d = none ∨ ∃ (dd : Addr) (vs : List (Str × V)), d = some dd ∧ H' dd = some (.xd vs)) ∧ tell C (bs.map D.bl) ∧
  ∀ l p, H' l = none → (upd H' l (.lst (bs.map V.bl))) p = none → Q (.ref p) (upd (upd H' l (.lst (bs.map V.bl))) p (.tup [.str "refused", .ref l, .int 0]))
def toldTT2 (K : PySem.W.Frag) (tell : Addr → List D → Prop) : (XK → Hp → VK → Prop) → Hp → VK → Prop := fun tl H Q => ∀ (E : XK) (Q' : VK),
  (∀ cls d H', toldE2 K tell Q cls d H' → E cls d H') → (∀ v H', (∀ p, H' p = none → Q (.ref p) (upd H' p (.tup [.str "told", v]))) → Q' v H') → tl E H Q'
def wTold2 (tell : Addr → List D → Prop) (w : EW) : EW := fun τ q _ => w τ (fun d τ' => q (.tup [.str "told", d]) τ') (fun x τ' => ∃ bs : List Bool, tell x.cls (bs.map D.bl) ∧ q (.tup [.str "refused", .lst (bs.map D.bl), .int 0]) τ')
theorem de_told2 {tell : Addr → List D → Prop} {t : XK → TE} {w : EW} (h : ∀ E : XK, DE K (fun cls d _ H => E cls d H) (t E) w) : DE K W (LamX.tLam TB.T (toldTT2 K tell) t) (wTold2 tell w) := by
  refine ⟨fun σ H τ F Q q e S hw k x => ⟨S.tabs.1, fun H1 hx ht E Q' hE hQ => ?_⟩⟩
  have s1 : Same F H1 := fun a o e => hx a o (S.sub a o e) (S.tabs.2 a o e)
  have x1 : Ext [] F H F H1 := ⟨Same.refl F, fun _ _ e => .inl e, fun a o e _ nt => hx a o e nt, fun a fr o e nt => fr o (hx a o e nt) nt, fun g => ⟨ht, g.2⟩⟩
  have t1 : To K F H σ τ F H1 τ := .small S x1 s1
  refine (h E).run σ H1 τ F Q' _ _ t1.ok hw (fun v d τ' F' H' t' r hq => hQ v H' fun p hp => ?_) (fun y cls dx τ' F' H' t' r hq => hE cls dx H' ?_)
  · obtain ⟨x1, x2⟩ := new_ext (o := .tup [.str "told", v]) t'.ok.sub hp
    exact k _ (.tup [.str "told", d]) τ' _ _ ((t1.trans t').trans (.small t'.ok x1 x2)) (.tup (.inl (.inl upd_same)) (.cons (.str _) (.cons (r.mono (new_same t'.ok.sub hp)) .nil))) hq
  · obtain ⟨bs, ht, hq⟩ := hq
    have hd : dx = none ∨ ∃ (dd : Addr) (vs : List (Str × V)), dx = some dd ∧ H' dd = some (.xd vs) := by
      rcases r.f with z | ⟨_, dd, vs, e, hd, _⟩
      · exact .inl z.2
      · exact .inr ⟨dd, vs, e, hd⟩
    refine ⟨y.cls, bs, r.c, hd, ht, fun l p hl hp => ?_⟩
    obtain ⟨x1, x2⟩ := new_ext (o := .lst (bs.map V.bl)) t'.ok.sub hl
    have t2 := (t1.trans t').trans (.small t'.ok x1 x2)
    obtain ⟨x3, x4⟩ := new_ext (o := .tup [.str "refused", .ref l, .int 0]) x2 hp
    have sF := new_same (o := .tup [.str "refused", .ref l, .int 0]) x2 hp
    exact k _ (.tup [.str "refused", .lst (bs.map D.bl), .int 0]) τ' _ _ (t2.trans (.small t2.ok x3 x4)) (.tup (.inl (.inl upd_same)) (.cons (.str _) (.cons (.lst (sF _ _ upd_same) reps_bls) (.cons (.int _) .nil)))) hq
end
end L3

/-! ## enumerate(x), x a tuple or a list -/
namespace L3
open PySem PySem.Spec PyProof.Rows L2
def iEnumB (K : PySem.W.Frag) (ta : TA) : TI := fun σ H R => ta σ H fun vs H1 => (∃ a xs, vs = [.ref a] ∧ SqT K H1 a xs ∧ R (IteT K a) H1) ∨ (∃ a xs, vs = [.ref a] ∧ SqL K H1 a xs ∧ R (Ite K a) H1)
theorem pi_enumB {X : Cx} {ex : Expr} {tx : TA} {pn pc pt : Pos} {els : List Expr} {kd : Nat} (hgl : Gl X "enumerate") (hmg : X.mg "enumerate" = none) (hx : PA X [ex] tx)
    (hst : starEach [ex] X.env = [(false, eval ex X.env)] := by rfl) : PI X (.Tuple els kd pt) (.Call (.Name "enumerate" pn) [ex] [] pc) (iEnumB X.K tx) := by
  refine ⟨fun pins s σ H R I h => ?_⟩
  refine Call_ (ld_blt I hgl hmg boot_enumerate (PyProof.Rows.callWith_type1 (thn (hx.run pc pins s σ H _ I h) fun us s1 ⟨vs, H1, I1, r1, qq⟩ => ?_) hst rfl) (by decide) (by decide)) rfl
  have fpo : ∀ b ∈ [s1.heap.objs.size + 1, s1.heap.objs.size], FpOk X pins H1 b := fun b hb => by
    have hle : s1.heap.objs.size ≤ b := by
      have hb2 : b = s1.heap.objs.size + 1 ∨ b = s1.heap.objs.size := by simpa using hb
      omega
    exact I1.fpOk hle (I1.hok.fresh hle)
  rcases qq with ⟨a, xs, rfl, hq, q⟩ | ⟨a, xs, rfl, hq, q⟩
  · obtain ⟨u, rfl, ru⟩ := vals1 r1
    obtain rfl : u = .ref a := ru
    obtain ⟨its, _, p, _⟩ := I1.tuple hq
    exact call_enumT p fun h' he hit _ hk => wpAny_pyIter_enum he ⟨_, _, _, _, H1, rfl, I1.kept (t' := s1.toks) hk, turn_enumT a _ _, ⟨⟨_, he⟩, hit, Nat.succ_ne_self _⟩, fpo, q⟩
  · obtain ⟨u, rfl, ru⟩ := vals1 r1
    obtain rfl : u = .ref a := ru
    obtain ⟨its, _, p, _⟩ := I1.list hq
    exact call_enumerate_list p.isList fun h' he hit _ hk => wpAny_pyIter_enum he ⟨_, _, _, _, H1, rfl, I1.kept (t' := s1.toks) hk, turn_enum a _ _, ⟨⟨_, he⟩, hit, Nat.succ_ne_self _⟩, fpo, q⟩
section
variable [TB : TabT] {K : PySem.W.Frag} {W : WX}
def wEnumB (wa : AW) : IW := fun τ q e => wa τ (fun ds τ' => ∃ es, (ds = [.tup es] ∨ ds = [.lst es]) ∧ q (es.mapIdx fun i d => .tup [.int i, d]) τ') e
theorem di_enumB {t : TA} {w : AW} (h : DA K W t w) : DI K W (iEnumB K t) (wEnumB w) := by
  refine ⟨fun σ H τ F R q e S hw k x => h.run σ H τ F _ _ e S hw (fun vs ds τ' F' H' t' r ⟨es, ed, hq⟩ => ?_) x⟩
  rcases ed with rfl | rfl
  · obtain ⟨v, rfl, r1⟩ := r.one
    cases r1 with
    | tup hs r2 => exact .inl ⟨_, _, rfl, SqT_mono t'.ok.sub hs, k _ _ τ' F' H' t' (it_enumT hs r2) hq⟩
  · obtain ⟨v, rfl, r1⟩ := r.one
    cases r1 with
    | lst hs r2 => exact .inr ⟨_, _, rfl, .inl (.inl (t'.ok.sub _ _ hs)), k _ _ τ' F' H' t' (it_enum (.inl (.inl hs)) r2) hq⟩
end
end L3

/-! ## x = list(y), both lists of one's own -/
namespace L3
open PySem PySem.Spec PyProof.Rows L2
variable [TB : TabT]
section
variable {K : PySem.W.Frag} {W : WX}
def wListOfOwn (i j : Nat) : SW := fun E τ => ∃ p es, τ[j]? = some (.own p (.lst es)) ∧ ∀ p2, E.nx (τ.set i (.own p2 (.lst es)))
theorem ds_listOfOwn {i j : Nat} : DS K W (tAsg (tCB (rListOf K) (tCons (tVar j) tNil)) (gName i)) (wListOfOwn i j) := by
  refine ⟨fun σ H τ F Dn E S ⟨p, es, e0, hq⟩ o => ?_⟩
  obtain ⟨s0, f0, vs0, h0, r0⟩ := own_lst S e0
  exact ⟨.ref p, s0, p, vs0, rfl, .inl (.inl (.inl h0)), fun l hl => o.nx _ _ F _ (to_own (.refl S) hl (.lst r0)) (hq l)⟩
end
end L3

/-! ## a def that hands back an own list that it made, with own parameters beside -/
namespace L3
open PySem PySem.Spec PyProof.Rows L2
variable [TB : TabT]
theorem keeps_at : ∀ {cs τ : List Cell} {i : Nat} {p : Addr} {k : Cont}, Keeps cs τ → cs[i]? = some (.own p k) → ∃ k2, τ[i]? = some (.own p k2)
  | [], _, i, p, k, _, h => by simp at h
  | _ :: _, [], i, p, k, z, _ => z.elim
  | .own p0 k0 :: cs, c :: τ, 0, p, k, z, h => by
    obtain ⟨⟨k2, rfl⟩, _⟩ := z
    simp at h
    obtain ⟨rfl, _⟩ := h
    exact ⟨k2, rfl⟩
  | .own _ _ :: cs, c :: τ, i + 1, p, k, z, h => keeps_at (i := i) z.2 (by simpa using h)
  | .any :: cs, c :: τ, 0, p, k, z, h => by simp at h
  | .any :: cs, c :: τ, i + 1, p, k, z, h => keeps_at (i := i) (cs := cs) (τ := τ) z (by simpa using h)
  | .dat _ :: cs, c :: τ, 0, p, k, z, h => by simp at h
  | .dat _ :: cs, c :: τ, i + 1, p, k, z, h => keeps_at (i := i) (cs := cs) (τ := τ) z (by simpa using h)
def PureG2 (np m : Nat) (fs : FSF) (wb : SW) : Prop := ∀ cs q e, cs.length = np → fs cs q e → (∀ (i : Nat) (p : Addr) (k : Cont), cs[i]? = some (.own p k) → Flat k) ∧
  wb { nx := fun _ => False, rt := fun _ _ => False, rf := fun ds τ => Keeps cs τ ∧ q ds (ends cs τ), bk := fun _ => False, ct := fun _ => False, ex := fun x τ => Keeps cs τ ∧ e x (ends cs τ), rg := fun ds τ => Keeps cs τ ∧ q ds (ends cs τ) } (cs ++ List.replicate m .any)
theorem def_okG2 {P : Program} {w : World} {K : PySem.W.Frag} {mg : Str → Option Value} {base : Heap} {x qual : Str} {st : Stmt} {f : Addr} {fd : FuncData} {N ps : List Str} {k : Nat} {fs : FSF} {wb : SW} (Fn : Fun K x qual st f fd) (S : FnScope N ps (defScope st))
    (hw : PureG2 ps.length (N.length - ps.length) fs wb)
    (hb : ∀ (cdv : Value) (A : Around) (outer : List Env) (s : Shared) (H : Hp) (E : XK), Room k (A.deeper (envOfC qual (defScope st) s.heap.objs.size f cdv)) → Takes (cxOf (L2.CX P w) P w K mg base N qual (defScope st) f cdv A outer s H E) (fun cls d _ H => E cls d H) →
      ∃ t, PSs (cxOf (L2.CX P w) P w K mg base N qual (defScope st) f cdv A outer s H E) (defBody st) t ∧ DS K (fun cls d _ H => E cls d H) t wb) :
    FnOk P w K mg base (L2.CX P w) (k + 1) f fd ps (spFr K ps.length fs) := by
  refine Fn.okX S (fun vs H Q E h => h.1) (fun cdv A outer s H vs Q E hr h => ?_)
  obtain ⟨t, h1, h2⟩ := hb cdv A outer s H E hr (takes_of rfl rfl rfl rfl)
  refine ⟨t, h1, ?_⟩
  obtain ⟨hl, F, cs, q, e, S0, hf, kq, ke⟩ := h
  obtain ⟨lcs, S1⟩ := s_ok (N := N) S0 hl
  obtain ⟨fl, hw⟩ := hw cs q e lcs hf
  have kept : ∀ {a : Addr} {τ' : List Cell}, IsOwn (cs ++ List.replicate (N.length - ps.length) .any) a → Keeps cs τ' → IsOwn τ' a := fun {a τ'} ⟨i, c, e1, g⟩ kp => by
    by_cases hi : i < cs.length
    · rw [List.getElem?_append_left hi] at e1
      cases c with
      | own p k =>
        have ea := flat_has (fl i p k e1) g
        subst ea
        obtain ⟨k2, e2⟩ := keeps_at kp e1
        exact ⟨i, _, e2, .inl rfl⟩
      | _ => exact g.elim
    · rw [List.getElem?_append_right (Nat.le_of_not_lt hi), List.getElem?_replicate] at e1
      split at e1
      · cases e1; exact g.elim
      · cases e1
  refine h2.run _ H _ F _ _ S1 hw ⟨fun _ _ _ _ _ z => z.elim, fun _ _ _ _ _ z => z, fun _ _ _ _ _ z => z, fun _ _ _ _ _ _ _ z => z.elim, fun σ' x cls dx τ' F' H' u r ⟨k, hq⟩ => ?_, fun p c τ' F' H' u co n ⟨k, hq⟩ => ?_, fun p c τ' F' H' u co n ⟨k, hq⟩ => ?_⟩
  · exact ke x cls dx _ F' H' u.ext.app u.ok.sub (cs_ok k u.ok.own u.ok.inj u.grow.app) r hq
  · exact kq p c _ F' H' u.ext.app u.sub (cs_ok k u.own u.inj u.grow.app) co (fun a f => ⟨(n a f).1, fun ⟨i, d, e, g⟩ => (n a f).2 ⟨i, d, (ends_has k e g).1, g⟩⟩) hq
  · exact kq p c _ F' H' u.ext.app u.sub (cs_ok k u.own u.inj u.grow.app) co (fun a f => ⟨(n a f).1.elim id fun z => ((n a f).2 (kept z k)).elim, fun ⟨i, d, e, g⟩ => (n a f).2 ⟨i, d, (ends_has k e g).1, g⟩⟩) hq
end L3

set_option Elab.async false
set_option linter.all false
set_option maxRecDepth 100000
set_option maxHeartbeats 4000000
namespace K86
open PySem PySem.Spec PyProof.Rows L2 L3
def inClass (st : Stmt) (j : Nat) : Stmt := match st with | .ClassDef (body := b) .. => b.getD j (.Pass ⟨0, 0, 0, 0⟩) | _ => .Pass ⟨0, 0, 0, 0⟩
def topS (i : Nat) : Stmt := PySem.Challenge.pw_twotides_k86_clashes_judged.main.body.getD i (.Pass ⟨0, 0, 0, 0⟩)
section
variable [TB : TabT] {K : PySem.W.Frag}
/-- a fraction in lowest terms -/
def nf (t b : Int) : D := .tup [.int (t / ((Nat.gcd t.natAbs b.natAbs : Nat) : Int)), .int (b / ((Nat.gcd t.natAbs b.natAbs : Nat) : Int))]
theorem gcd_w {t b : Int} (h0 : 0 < b) (h : b.natAbs < 2 ^ 900) (x : Int) : CDivW x (Nat.gcd t.natAbs b.natAbs : Nat) := by
  have hg : 0 < Nat.gcd t.natAbs b.natAbs := Nat.gcd_pos_of_pos_right _ (by omega)
  have gb : Nat.gcd t.natAbs b.natAbs ≤ b.natAbs := Nat.le_of_dvd (by omega) (Nat.gcd_dvd_right _ _)
  exact wide_div (b := 900) (by omega) (by rw [Int.natAbs_natCast]; omega) (by decide) (by decide)
theorem pow_le {a b : Nat} (h : a ≤ b) : (2 : Nat) ^ a ≤ 2 ^ b := Nat.pow_le_pow_right (by decide) h
/-- its integers are below 2 ^ k -/
def SmI (k : Nat) (x y : Int) : Prop := x.natAbs < 2 ^ k ∧ y.natAbs < 2 ^ k
theorem cmul_w {i j : Int} {a b : Nat} (h1 : i.natAbs < 2 ^ a) (h2 : j.natAbs < 2 ^ b) (ha : 0 < a) (hb : 0 < b) (h : a + b ≤ 1000000) : CMulA i j := .inr (wide_mul h1 h2 ha hb h)
theorem pos_right {a b : Int} (ha : 0 < a) (h : 0 < a * b) : 0 < b := by
  cases Int.lt_or_le 0 b with
  | inl z => exact z
  | inr z =>
    have := Int.mul_le_mul_of_nonneg_left z (Int.le_of_lt ha)
    omega
theorem nf_parts {t b : Int} (hb : 0 < b) : ∃ t' b', nf t b = .tup [.int t', .int b'] ∧ 0 < b' ∧ t' * b = t * b' ∧ t'.natAbs ≤ t.natAbs ∧ b'.natAbs ≤ b.natAbs ∧ Nat.gcd t'.natAbs b'.natAbs = 1 := by
  have hg : 0 < Nat.gcd t.natAbs b.natAbs := Nat.gcd_pos_of_pos_right _ (by omega)
  have hg' : ((Nat.gcd t.natAbs b.natAbs : Nat) : Int) ≠ 0 := by omega
  obtain ⟨x, hx⟩ : ((Nat.gcd t.natAbs b.natAbs : Nat) : Int) ∣ t := Int.ofNat_dvd_left.mpr (Nat.gcd_dvd_left _ _)
  obtain ⟨y, hy⟩ : ((Nat.gcd t.natAbs b.natAbs : Nat) : Int) ∣ b := Int.ofNat_dvd_left.mpr (Nat.gcd_dvd_right _ _)
  have ex : t / ((Nat.gcd t.natAbs b.natAbs : Nat) : Int) = x := Int.ediv_eq_of_eq_mul_right hg' hx
  have ey : b / ((Nat.gcd t.natAbs b.natAbs : Nat) : Int) = y := Int.ediv_eq_of_eq_mul_right hg' hy
  have ax : t.natAbs = Nat.gcd t.natAbs b.natAbs * x.natAbs := by
    have := congrArg Int.natAbs hx
    rwa [Int.natAbs_mul, Int.natAbs_natCast] at this
  have ay : b.natAbs = Nat.gcd t.natAbs b.natAbs * y.natAbs := by
    have := congrArg Int.natAbs hy
    rwa [Int.natAbs_mul, Int.natAbs_natCast] at this
  refine ⟨x, y, by unfold nf; rw [ex, ey], ?_, ?_, ?_, ?_, ?_⟩
  · rw [hy] at hb
    exact pos_right (by omega) hb
  · generalize Nat.gcd t.natAbs b.natAbs = g at hx hy
    rw [hx, hy]
    simp only [Int.mul_assoc, Int.mul_comm, Int.mul_left_comm]
  · rw [ax]; exact Nat.le_mul_of_pos_left _ hg
  · rw [ay]; exact Nat.le_mul_of_pos_left _ hg
  · have h := Nat.gcd_div (Nat.gcd_dvd_left t.natAbs b.natAbs) (Nat.gcd_dvd_right t.natAbs b.natAbs)
    rw [Nat.div_self hg] at h
    have e1 : t.natAbs / Nat.gcd t.natAbs b.natAbs = x.natAbs := Nat.div_eq_of_eq_mul_right hg ax
    have e2 : b.natAbs / Nat.gcd t.natAbs b.natAbs = y.natAbs := Nat.div_eq_of_eq_mul_right hg ay
    rwa [e1, e2] at h
theorem pow6 : (10 : Int) ^ Int.toNat 6 = 1000000 := by decide +kernel
abbrev SN : Nat := 6
abbrev webD (C : Addr) (ws ps : D) : D := .ins C [("widths", ws), ("pipes", ps)]
theorem web_w {ws ps : D} : ([((Str.ofString "widths"), ws), (Str.ofString "pipes", ps)] : List (Str × D)).lookup (Str.ofString "widths") = some ws := by simp [List.lookup]
theorem web_p {ws ps : D} : ([((Str.ofString "widths"), ws), (Str.ofString "pipes", ps)] : List (Str × D)).lookup (Str.ofString "pipes") = some ps := by
  have : (Str.ofString "pipes" == Str.ofString "widths") = false := by decide +kernel
  simp [List.lookup, this]
theorem web_wE {C : Addr} {a b : D} {P : D → Prop} : (∃ gs, webD C a b = D.ins C gs ∧ ∃ x, List.lookup (Str.ofString "widths") gs = some x ∧ P x) ↔ P a :=
  ⟨fun ⟨gs, e, x, h, p⟩ => by
    cases e
    have h : List.lookup (Str.ofString "widths") [(Str.ofString "widths", a), (Str.ofString "pipes", b)] = some x := h
    rw [web_w] at h
    cases h
    exact p, fun p => ⟨_, rfl, _, web_w, p⟩⟩
theorem web_pE {C : Addr} {a b : D} {P : D → Prop} : (∃ gs, webD C a b = D.ins C gs ∧ ∃ x, List.lookup (Str.ofString "pipes") gs = some x ∧ P x) ↔ P b :=
  ⟨fun ⟨gs, e, x, h, p⟩ => by
    cases e
    have h : List.lookup (Str.ofString "pipes") [(Str.ofString "widths", a), (Str.ofString "pipes", b)] = some x := h
    rw [web_p] at h
    cases h
    exact p, fun p => ⟨_, rfl, _, web_p, p⟩⟩
theorem webD_inj {C : Addr} {us ds us' ds' : List D} : (webD C (.tup us) (.tup ds) = webD C (.tup us') (.tup ds')) = (us = us' ∧ ds = ds') := by
  simp [webD]
end

structure CT where
  C_NoNumber : Addr
  C_Web : Addr
  C_TidesError : Addr
  C_BadWeb : Addr
  C_NoSights : Addr
set_option genInjectivity false in
structure Txt (K : PySem.W.Frag) (mg : Str → Option Value) where
  f_is_integer : Addr
  fd_is_integer : FuncData
  F_is_integer : Fun K "is_integer" "is_integer" (topS 2) f_is_integer fd_is_integer
  b_is_integer : Binds K fd_is_integer ["thing"] []
  g_is_integer : mg "is_integer" = some (.ref f_is_integer)
  k_is_integer : PySem.W.keepIn K (.ref f_is_integer) = true
  f_is_between : Addr
  fd_is_between : FuncData
  F_is_between : Fun K "is_between" "is_between" (topS 3) f_is_between fd_is_between
  b_is_between : Binds K fd_is_between ["low", "high", "thing"] []
  g_is_between : mg "is_between" = some (.ref f_is_between)
  k_is_between : PySem.W.keepIn K (.ref f_is_between) = true
  f_is_tuple_of : Addr
  fd_is_tuple_of : FuncData
  F_is_tuple_of : Fun K "is_tuple_of" "is_tuple_of" (topS 4) f_is_tuple_of fd_is_tuple_of
  b_is_tuple_of : Binds K fd_is_tuple_of ["low", "high", "thing"] []
  g_is_tuple_of : mg "is_tuple_of" = some (.ref f_is_tuple_of)
  k_is_tuple_of : PySem.W.keepIn K (.ref f_is_tuple_of) = true
  f_is_fraction : Addr
  fd_is_fraction : FuncData
  F_is_fraction : Fun K "is_fraction" "is_fraction" (topS 5) f_is_fraction fd_is_fraction
  b_is_fraction : Binds K fd_is_fraction ["thing"] []
  g_is_fraction : mg "is_fraction" = some (.ref f_is_fraction)
  k_is_fraction : PySem.W.keepIn K (.ref f_is_fraction) = true
  f_at_most : Addr
  fd_at_most : FuncData
  F_at_most : Fun K "at_most" "at_most" (topS 6) f_at_most fd_at_most
  b_at_most : Binds K fd_at_most ["one", "other"] []
  g_at_most : mg "at_most" = some (.ref f_at_most)
  k_at_most : PySem.W.keepIn K (.ref f_at_most) = true
  f_is_threshold : Addr
  fd_is_threshold : FuncData
  F_is_threshold : Fun K "is_threshold" "is_threshold" (topS 17) f_is_threshold fd_is_threshold
  b_is_threshold : Binds K fd_is_threshold ["thing"] []
  g_is_threshold : mg "is_threshold" = some (.ref f_is_threshold)
  k_is_threshold : PySem.W.keepIn K (.ref f_is_threshold) = true
  f_is_list : Addr
  fd_is_list : FuncData
  F_is_list : Fun K "is_list" "is_list" (topS 18) f_is_list fd_is_list
  b_is_list : Binds K fd_is_list ["thing"] []
  g_is_list : mg "is_list" = some (.ref f_is_list)
  k_is_list : PySem.W.keepIn K (.ref f_is_list) = true
  f_is_width : Addr
  fd_is_width : FuncData
  F_is_width : Fun K "is_width" "is_width" (topS 19) f_is_width fd_is_width
  b_is_width : Binds K fd_is_width ["thing"] []
  g_is_width : mg "is_width" = some (.ref f_is_width)
  k_is_width : PySem.W.keepIn K (.ref f_is_width) = true
  f_is_widths : Addr
  fd_is_widths : FuncData
  F_is_widths : Fun K "is_widths" "is_widths" (topS 23) f_is_widths fd_is_widths
  b_is_widths : Binds K fd_is_widths ["thing"] []
  g_is_widths : mg "is_widths" = some (.ref f_is_widths)
  k_is_widths : PySem.W.keepIn K (.ref f_is_widths) = true
  f_is_pipe : Addr
  fd_is_pipe : FuncData
  F_is_pipe : Fun K "is_pipe" "is_pipe" (topS 24) f_is_pipe fd_is_pipe
  b_is_pipe : Binds K fd_is_pipe ["vessels", "thing"] []
  g_is_pipe : mg "is_pipe" = some (.ref f_is_pipe)
  k_is_pipe : PySem.W.keepIn K (.ref f_is_pipe) = true
  f_Web__init__ : Addr
  fd_Web__init__ : FuncData
  F_Web__init__ : Fun K "__init__" "Web.__init__" (inClass (topS 25) 0) f_Web__init__ fd_Web__init__
  b_Web__init__ : Binds K fd_Web__init__ ["self", "widths", "pipes"] []
  f_is_sight : Addr
  fd_is_sight : FuncData
  F_is_sight : Fun K "is_sight" "is_sight" (topS 28) f_is_sight fd_is_sight
  b_is_sight : Binds K fd_is_sight ["thing"] []
  g_is_sight : mg "is_sight" = some (.ref f_is_sight)
  k_is_sight : PySem.W.keepIn K (.ref f_is_sight) = true
  f_check_sights : Addr
  fd_check_sights : FuncData
  F_check_sights : Fun K "check_sights" "check_sights" (topS 29) f_check_sights fd_check_sights
  b_check_sights : Binds K fd_check_sights ["told", "many"] []
  g_check_sights : mg "check_sights" = some (.ref f_check_sights)
  k_check_sights : PySem.W.keepIn K (.ref f_check_sights) = true
  f_bars_alone : Addr
  fd_bars_alone : FuncData
  F_bars_alone : Fun K "bars_alone" "bars_alone" (topS 31) f_bars_alone fd_bars_alone
  b_bars_alone : Binds K fd_bars_alone ["many", "sight"] []
  g_bars_alone : mg "bars_alone" = some (.ref f_bars_alone)
  k_bars_alone : PySem.W.keepIn K (.ref f_bars_alone) = true
  f_amount : Addr
  fd_amount : FuncData
  F_amount : Fun K "amount" "amount" (topS 30) f_amount fd_amount
  b_amount : Binds K fd_amount ["drop"] []
  g_amount : mg "amount" = some (.ref f_amount)
  k_amount : PySem.W.keepIn K (.ref f_amount) = true
  f_edges : Addr
  fd_edges : FuncData
  F_edges : Fun K "edges" "edges" (topS 32) f_edges fd_edges
  b_edges : Binds K fd_edges ["told", "number"] []
  g_edges : mg "edges" = some (.ref f_edges)
  k_edges : PySem.W.keepIn K (.ref f_edges) = true
  f_clash_of : Addr
  fd_clash_of : FuncData
  F_clash_of : Fun K "clash_of" "clash_of" (topS 33) f_clash_of fd_clash_of
  b_clash_of : Binds K fd_clash_of ["told", "many"] []
  g_clash_of : mg "clash_of" = some (.ref f_clash_of)
  k_clash_of : PySem.W.keepIn K (.ref f_clash_of) = true
  f_is_clash : Addr
  fd_is_clash : FuncData
  F_is_clash : Fun K "is_clash" "is_clash" (topS 34) f_is_clash fd_is_clash
  b_is_clash : Binds K fd_is_clash ["sights", "many", "thing"] []
  g_is_clash : mg "is_clash" = some (.ref f_is_clash)
  k_is_clash : PySem.W.keepIn K (.ref f_is_clash) = true
  f__law_source : Addr
  fd__law_source : FuncData
  F__law_source : Fun K "_law_source" "_law_source" (topS 36) f__law_source fd__law_source
  b__law_source : Binds K fd__law_source ["script"] []
  g__law_source : mg "_law_source" = some (.ref f__law_source)
  k__law_source : PySem.W.keepIn K (.ref f__law_source) = true
  f__law_mixed : Addr
  fd__law_mixed : FuncData
  F__law_mixed : Fun K "_law_mixed" "_law_mixed" (topS 37) f__law_mixed fd__law_mixed
  b__law_mixed : Binds K fd__law_mixed ["number", "turn"] []
  g__law_mixed : mg "_law_mixed" = some (.ref f__law_mixed)
  k__law_mixed : PySem.W.keepIn K (.ref f__law_mixed) = true
  f__law_draw : Addr
  fd__law_draw : FuncData
  F__law_draw : Fun K "_law_draw" "_law_draw" (topS 38) f__law_draw fd__law_draw
  b__law_draw : Binds K fd__law_draw ["source", "many"] []
  g__law_draw : mg "_law_draw" = some (.ref f__law_draw)
  k__law_draw : PySem.W.keepIn K (.ref f__law_draw) = true
  f__law_pick : Addr
  fd__law_pick : FuncData
  F__law_pick : Fun K "_law_pick" "_law_pick" (topS 39) f__law_pick fd__law_pick
  b__law_pick : Binds K fd__law_pick ["source", "row"] []
  g__law_pick : mg "_law_pick" = some (.ref f__law_pick)
  k__law_pick : PySem.W.keepIn K (.ref f__law_pick) = true
  f__law_divisor : Addr
  fd__law_divisor : FuncData
  F__law_divisor : Fun K "_law_divisor" "_law_divisor" (topS 40) f__law_divisor fd__law_divisor
  b__law_divisor : Binds K fd__law_divisor ["one", "other"] []
  g__law_divisor : mg "_law_divisor" = some (.ref f__law_divisor)
  k__law_divisor : PySem.W.keepIn K (.ref f__law_divisor) = true
  f__law_made : Addr
  fd__law_made : FuncData
  F__law_made : Fun K "_law_made" "_law_made" (topS 41) f__law_made fd__law_made
  b__law_made : Binds K fd__law_made ["top", "bottom"] []
  g__law_made : mg "_law_made" = some (.ref f__law_made)
  k__law_made : PySem.W.keepIn K (.ref f__law_made) = true
  f__law_same : Addr
  fd__law_same : FuncData
  F__law_same : Fun K "_law_same" "_law_same" (topS 44) f__law_same fd__law_same
  b__law_same : Binds K fd__law_same ["actual", "expected"] []
  g__law_same : mg "_law_same" = some (.ref f__law_same)
  k__law_same : PySem.W.keepIn K (.ref f__law_same) = true
  f__law_integer : Addr
  fd__law_integer : FuncData
  F__law_integer : Fun K "_law_integer" "_law_integer" (topS 46) f__law_integer fd__law_integer
  b__law_integer : Binds K fd__law_integer ["thing"] []
  g__law_integer : mg "_law_integer" = some (.ref f__law_integer)
  k__law_integer : PySem.W.keepIn K (.ref f__law_integer) = true
  f__law_deep : Addr
  fd__law_deep : FuncData
  F__law_deep : Fun K "_law_deep" "_law_deep" (topS 47) f__law_deep fd__law_deep
  b__law_deep : Binds K fd__law_deep ["many"] []
  g__law_deep : mg "_law_deep" = some (.ref f__law_deep)
  k__law_deep : PySem.W.keepIn K (.ref f__law_deep) = true
  f__law_strange : Addr
  fd__law_strange : FuncData
  F__law_strange : Fun K "_law_strange" "_law_strange" (topS 48) f__law_strange fd__law_strange
  b__law_strange : Binds K fd__law_strange ["source"] []
  g__law_strange : mg "_law_strange" = some (.ref f__law_strange)
  k__law_strange : PySem.W.keepIn K (.ref f__law_strange) = true
  f__law_in_order : Addr
  fd__law_in_order : FuncData
  F__law_in_order : Fun K "_law_in_order" "_law_in_order" (topS 49) f__law_in_order fd__law_in_order
  b__law_in_order : Binds K fd__law_in_order ["steps"] []
  g__law_in_order : mg "_law_in_order" = some (.ref f__law_in_order)
  k__law_in_order : PySem.W.keepIn K (.ref f__law_in_order) = true
  f__law_steps : Addr
  fd__law_steps : FuncData
  F__law_steps : Fun K "_law_steps" "_law_steps" (topS 50) f__law_steps fd__law_steps
  b__law_steps : Binds K fd__law_steps ["source", "most", "wide"] []
  g__law_steps : mg "_law_steps" = some (.ref f__law_steps)
  k__law_steps : PySem.W.keepIn K (.ref f__law_steps) = true
  f__law_added : Addr
  fd__law_added : FuncData
  F__law_added : Fun K "_law_added" "_law_added" (topS 42) f__law_added fd__law_added
  b__law_added : Binds K fd__law_added ["one", "other"] []
  g__law_added : mg "_law_added" = some (.ref f__law_added)
  k__law_added : PySem.W.keepIn K (.ref f__law_added) = true
  f__law_flow : Addr
  fd__law_flow : FuncData
  F__law_flow : Fun K "_law_flow" "_law_flow" (topS 51) f__law_flow fd__law_flow
  b__law_flow : Binds K fd__law_flow ["steps", "drop"] []
  g__law_flow : mg "_law_flow" = some (.ref f__law_flow)
  k__law_flow : PySem.W.keepIn K (.ref f__law_flow) = true
  f__law_drop_near : Addr
  fd__law_drop_near : FuncData
  F__law_drop_near : Fun K "_law_drop_near" "_law_drop_near" (topS 56) f__law_drop_near fd__law_drop_near
  b__law_drop_near : Binds K fd__law_drop_near ["source", "steps"] []
  g__law_drop_near : mg "_law_drop_near" = some (.ref f__law_drop_near)
  k__law_drop_near : PySem.W.keepIn K (.ref f__law_drop_near) = true
  f__law_sights : Addr
  fd__law_sights : FuncData
  F__law_sights : Fun K "_law_sights" "_law_sights" (topS 57) f__law_sights fd__law_sights
  b__law_sights : Binds K fd__law_sights ["source", "steps", "many"] []
  g__law_sights : mg "_law_sights" = some (.ref f__law_sights)
  k__law_sights : PySem.W.keepIn K (.ref f__law_sights) = true
  f__law_things : Addr
  fd__law_things : FuncData
  F__law_things : Fun K "_law_things" "_law_things" (topS 60) f__law_things fd__law_things
  b__law_things : Binds K fd__law_things ["source", "many"] []
  g__law_things : mg "_law_things" = some (.ref f__law_things)
  k__law_things : PySem.W.keepIn K (.ref f__law_things) = true
  f__law_sight_alone : Addr
  fd__law_sight_alone : FuncData
  F__law_sight_alone : Fun K "_law_sight_alone" "_law_sight_alone" (topS 53) f__law_sight_alone fd__law_sight_alone
  b__law_sight_alone : Binds K fd__law_sight_alone ["sight", "many"] []
  g__law_sight_alone : mg "_law_sight_alone" = some (.ref f__law_sight_alone)
  k__law_sight_alone : PySem.W.keepIn K (.ref f__law_sight_alone) = true
  f__law_below : Addr
  fd__law_below : FuncData
  F__law_below : Fun K "_law_below" "_law_below" (topS 43) f__law_below fd__law_below
  b__law_below : Binds K fd__law_below ["one", "other"] []
  g__law_below : mg "_law_below" = some (.ref f__law_below)
  k__law_below : PySem.W.keepIn K (.ref f__law_below) = true
  f__law_abs : Addr
  fd__law_abs : FuncData
  F__law_abs : Fun K "_law_abs" "_law_abs" (topS 52) f__law_abs fd__law_abs
  b__law_abs : Binds K fd__law_abs ["one"] []
  g__law_abs : mg "_law_abs" = some (.ref f__law_abs)
  k__law_abs : PySem.W.keepIn K (.ref f__law_abs) = true
  f__law_sights_agree : Addr
  fd__law_sights_agree : FuncData
  F__law_sights_agree : Fun K "_law_sights_agree" "_law_sights_agree" (topS 54) f__law_sights_agree fd__law_sights_agree
  b__law_sights_agree : Binds K fd__law_sights_agree ["one", "other"] []
  g__law_sights_agree : mg "_law_sights_agree" = some (.ref f__law_sights_agree)
  k__law_sights_agree : PySem.W.keepIn K (.ref f__law_sights_agree) = true
  f__law_some_list : Addr
  fd__law_some_list : FuncData
  F__law_some_list : Fun K "_law_some_list" "_law_some_list" (topS 55) f__law_some_list fd__law_some_list
  b__law_some_list : Binds K fd__law_some_list ["rows", "many"] []
  g__law_some_list : mg "_law_some_list" = some (.ref f__law_some_list)
  k__law_some_list : PySem.W.keepIn K (.ref f__law_some_list) = true
  f__law_due : Addr
  fd__law_due : FuncData
  F__law_due : Fun K "_law_due" "_law_due" (topS 59) f__law_due fd__law_due
  b__law_due : Binds K fd__law_due ["rows", "many", "thing"] []
  g__law_due : mg "_law_due" = some (.ref f__law_due)
  k__law_due : PySem.W.keepIn K (.ref f__law_due) = true
  f__law_met : Addr
  fd__law_met : FuncData
  F__law_met : Fun K "_law_met" "_law_met" (topS 45) f__law_met fd__law_met
  b__law_met : Binds K fd__law_met ["found", "due"] []
  g__law_met : mg "_law_met" = some (.ref f__law_met)
  k__law_met : PySem.W.keepIn K (.ref f__law_met) = true
  f__law_told : Addr
  fd__law_told : FuncData
  F__law_told : Fun K "_law_told" "_law_told" (topS 58) f__law_told fd__law_told
  b__law_told : Binds K fd__law_told ["action"] []
  g__law_told : mg "_law_told" = some (.ref f__law_told)
  k__law_told : PySem.W.keepIn K (.ref f__law_told) = true
  Z : CT
  fi_NoNumber : Addr
  x_NoNumber : Exc0 K mg "NoNumber" "NoNumber.__init__" Z.C_NoNumber fi_NoNumber
  cm_Web : Mk K Z.C_Web f_Web__init__
  gc_Web : mg "Web" = some (.ref Z.C_Web)
  it_Web : InsTy K Z.C_Web
  ok_Web : OkD K (.oth (.ref Z.C_Web))
  gc_TidesError : mg "TidesError" = some (.ref Z.C_TidesError)
  fi_BadWeb : Addr
  fdx_BadWeb : FuncData
  Fx_BadWeb : Fun K "__init__" "BadWeb.__init__" (inClass (topS 10) 0) fi_BadWeb fdx_BadWeb
  bx_BadWeb : Binds K fdx_BadWeb ["self", "part"] []
  gx_BadWeb : mg "BadWeb" = some (.ref Z.C_BadWeb)
  ox_BadWeb : OexC K Z.C_BadWeb
  xi_BadWeb : PySem.W.findIn K (.ref Z.C_BadWeb) "__init__" = some (some (.ref fi_BadWeb))
  xt_BadWeb : PySem.W.typeIn K (.ref fi_BadWeb) = some (.type "function")
  no_BadWeb : PySem.W.findIn K (.ref Z.C_BadWeb) "part" = some none
  xf_BadWeb : L2.XfC K Z.C_BadWeb
  fi_NoSights : Addr
  fdx_NoSights : FuncData
  Fx_NoSights : Fun K "__init__" "NoSights.__init__" (inClass (topS 11) 0) fi_NoSights fdx_NoSights
  bx_NoSights : Binds K fdx_NoSights ["self", "index"] []
  gx_NoSights : mg "NoSights" = some (.ref Z.C_NoSights)
  ox_NoSights : OexC K Z.C_NoSights
  xi_NoSights : PySem.W.findIn K (.ref Z.C_NoSights) "__init__" = some (some (.ref fi_NoSights))
  xt_NoSights : PySem.W.typeIn K (.ref fi_NoSights) = some (.type "function")
  no_NoSights : PySem.W.findIn K (.ref Z.C_NoSights) "index" = some none
  xf_NoSights : L2.XfC K Z.C_NoSights
  na_Web_pipes : NoAttr K Z.C_Web "pipes"
  na_Web_widths : NoAttr K Z.C_Web "widths"
  z_abs : mg "abs" = none
  z_all : mg "all" = none
  z_bool : mg "bool" = none
  z_enumerate : mg "enumerate" = none
  z_int : mg "int" = none
  z_isinstance : mg "isinstance" = none
  z_len : mg "len" = none
  z_list : mg "list" = none
  z_range : mg "range" = none
  z_sorted : mg "sorted" = none
  z_str : mg "str" = none
  z_tuple : mg "tuple" = none
  z_zip : mg "zip" = none
  t_MOST_BOTTOM : Tok
  c_MOST_BOTTOM : mg "MOST_BOTTOM" = some (.int 144 t_MOST_BOTTOM)
  t_MOST_PIPES : Tok
  c_MOST_PIPES : mg "MOST_PIPES" = some (.int 36 t_MOST_PIPES)
  t_MOST_SIGHTS : Tok
  c_MOST_SIGHTS : mg "MOST_SIGHTS" = some (.int 1000 t_MOST_SIGHTS)
  t_MOST_THRESHOLDS : Tok
  c_MOST_THRESHOLDS : mg "MOST_THRESHOLDS" = some (.int 6 t_MOST_THRESHOLDS)
  t_MOST_TOP : Tok
  c_MOST_TOP : mg "MOST_TOP" = some (.int 1000000 t_MOST_TOP)
  t_MOST_VESSELS : Tok
  c_MOST_VESSELS : mg "MOST_VESSELS" = some (.int 12 t_MOST_VESSELS)
  t_MOST_WIDTH : Tok
  c_MOST_WIDTH : mg "MOST_WIDTH" = some (.int 12 t_MOST_WIDTH)
  m_gcd : mg "gcd" = some (.builtin "math.gcd")
abbrev sx_BadWeb : Stmt := inClass (topS 10) 0
theorem scx_BadWeb : FnScope ["self", "part"] ["self", "part"] (defScope sx_BadWeb) := ⟨rfl, rfl, rfl, by decide +kernel, rfl, by decide +kernel, by decide +kernel⟩
theorem okx_BadWeb [TB : TabT] {P : Program} {w : World} {K : PySem.W.Frag} {mg : Str → Option Value} {base : Heap} (T : Txt K mg) : FnOk P w K mg base (L2.CX P w) 1 T.fi_BadWeb T.fdx_BadWeb ["self", "part"] (spX1 K T.Z.C_BadWeb "part") := exc1_ok T.Fx_BadWeb scx_BadWeb rfl (by decide) (fun _ => rfl) T.ox_BadWeb T.no_BadWeb fun _ _ _ _ _ _ => ⟨pv 0, pv 1⟩
abbrev sx_NoSights : Stmt := inClass (topS 11) 0
theorem scx_NoSights : FnScope ["self", "index"] ["self", "index"] (defScope sx_NoSights) := ⟨rfl, rfl, rfl, by decide +kernel, rfl, by decide +kernel, by decide +kernel⟩
theorem okx_NoSights [TB : TabT] {P : Program} {w : World} {K : PySem.W.Frag} {mg : Str → Option Value} {base : Heap} (T : Txt K mg) : FnOk P w K mg base (L2.CX P w) 1 T.fi_NoSights T.fdx_NoSights ["self", "index"] (spX1 K T.Z.C_NoSights "index") := exc1_ok T.Fx_NoSights scx_NoSights rfl (by decide) (fun _ => rfl) T.ox_NoSights T.no_NoSights fun _ _ _ _ _ _ => ⟨pv 0, pv 1⟩
section
variable [TB : TabT] {P : Program} {w : World} {K : PySem.W.Frag} {mg : Str → Option Value} {base : Heap}
abbrev s_is_integer : Stmt := topS 2
theorem sc_is_integer : FnScope ["thing"] ["thing"] (defScope s_is_integer) := ⟨rfl, rfl, rfl, by decide +kernel, rfl, by decide +kernel, by decide +kernel⟩
def w_is_integer (K : PySem.W.Frag) : SW := (wRet (wAndV (wCB (gIsi K) (wCons (wVar 0) (wCons (wC (.ty "int")) wNil))) (wNotV (wCB (gIsi K) (wCons (wVar 0) (wCons (wC (.ty "bool")) wNil))))))
def isIntD : D → Bool | .int _ => true | _ => false
def fs_is_integer (K : PySem.W.Frag) : FS := fun cs q _ => ∃ d, cs = [.dat d] ∧ OkD K d ∧ q (.bl (isIntD d)) [.dat d]
theorem pure_is_integer : PureD 1 0 (fs_is_integer K) (w_is_integer K) := by
  rintro cs q e - ⟨d, rfl, hd, hq⟩
  simp only [w_is_integer, gIsi_iff hd (show "int" ∈ kinds by simp), gIsi_iff hd (show "bool" ∈ kinds by simp), wAsg2, wTold2, wEnumB, wListOfOwn, wRetOwnG, dcOf, wIsiT, offE, D.adr.injEq, Cont.pool.injEq, ixN31, ne_eq, List.map_cons, List.map_nil, wRaise0, wRaise1, wFrz, wEnumT, wDict0, wDict1, numD3, Nat.reduceAdd, atI0, atI1, atI2, atI3, atI4, ixN51, ixN52, ixN53, List.length_map, scal, V.int.injEq, V.str.injEq, V.bl.injEq, wSq, wNext, wBreak, wDrop, wRet, wIfS, wAsg, wPar, wLstOwn, wAppend, wSetOwn, wIxOwn, wPeek, wRetFr, wFor, wB, wNot, wAnd, wOr, wAndV, wOrV, wNotV, wChain, wNil, wCons, wCB, wTup, wLst, wNoPart, wPart, wSlT, wSeq, wRng1, wRng2, wZip, wName, wNilT, wConsT, wTupT, wYes, wNeg, wVar, wC, wOp, wcNil, wcCons, wcOwn, wCall, wCallOwn, slots, cellsOf, OwnArgs, putBack, g2I, g2IC, gLen, gAbs, gGcd, gInt1, gTupleOf, gListOf, gIx, gCatT, gCat, gEq, gNe, gIsN, gNotN, scD, seqD_t, seqD_l, seqD_f, isNonD, List.nodup_cons, List.mem_cons, List.not_mem_nil, or_false, not_false_eq_true, Nat.reduceEqDiff, L3.Keeps, ends, wipeD, List.replicate, List.cons_append, List.nil_append, List.append_nil, List.getElem?_cons_zero, List.getElem?_cons_succ, List.set_cons_zero, List.set_cons_succ, List.getD_cons_zero, List.getD_cons_succ, List.length_cons, List.length_nil, List.nodup_nil, Option.some.injEq, Cell.dat.injEq, Cell.own.injEq, Cont.lst.injEq, D.bl.injEq, D.int.injEq, D.str.injEq, D.tup.injEq, D.lst.injEq, Arg.d.injEq, List.cons.injEq, exists_and_left, exists_and_right, exists_eq_left', exists_eq_left, exists_eq_right, exists_eq_right', exists_eq, exists_eq', and_true, true_and, and_assoc, and_self, exists_const, reduceCtorEq, web_wE, web_pE, webD_inj]
  cases d <;> simp_all [isiD, isIntD]
theorem ok_is_integer (T : Txt K mg) : FnOk P w K mg base (L2.CX P w) 1 T.f_is_integer T.fd_is_integer ["thing"] (spOf K 1 (fs_is_integer K)) := by
  refine def_ok T.F_is_integer sc_is_integer (wb := w_is_integer K) pure_is_integer ?_
  intro cdv A outer s H E hr tk
  exact ⟨_, (pss_one (ps_ret (pe_and (pe_callB call_isi (by rfl) T.z_isinstance (by decide +kernel) (pa_cons (pv 0) (pa_cons (pe_bltn (v := .ty "int") (by rfl) T.z_int (by decide +kernel) rfl) pa_nil))) (pe_one (pe_not (pe_callB call_isi (by rfl) T.z_isinstance (by decide +kernel) (pa_cons (pv 0) (pa_cons (pe_bltn (v := .ty "bool") (by rfl) T.z_bool (by decide +kernel) rfl) pa_nil)))))))),
    (ds_ret (de_and (de_cb o_isi (da_cons (de_var 0) (da_cons de_ty da_nil))) (de_not (de_cb o_isi (da_cons (de_var 0) (da_cons de_ty da_nil))))))⟩
abbrev s_is_between : Stmt := topS 3
theorem sc_is_between : FnScope ["low", "high", "thing"] ["low", "high", "thing"] (defScope s_is_between) := ⟨rfl, rfl, rfl, by decide +kernel, rfl, by decide +kernel, by decide +kernel⟩
def w_is_between (K : PySem.W.Frag) : SW := (wRet (wAndV (wCall 1 (fs_is_integer K) (wcCons (wVar 2) wcNil)) (wChain gLeI gLeI (wVar 0) (wVar 2) (wVar 1))))
def isBetw (l h : Int) : D → Bool | .int i => decide (l ≤ i) && decide (i ≤ h) | _ => false
def fs_is_between (K : PySem.W.Frag) : FS := fun cs q _ => ∃ (l h : Int) (d : D), cs = [.dat (.int l), .dat (.int h), .dat d] ∧ OkD K d ∧ q (.bl (isBetw l h d)) cs
theorem pure_is_between : PureD 3 0 (fs_is_between K) (w_is_between K) := by
  rintro cs q e - ⟨l, h, d, rfl, hd, hq⟩
  simp only [w_is_between, fs_is_integer, hd, wAsg2, wTold2, wEnumB, wListOfOwn, wRetOwnG, dcOf, wIsiT, offE, D.adr.injEq, Cont.pool.injEq, ixN31, ne_eq, List.map_cons, List.map_nil, wRaise0, wRaise1, wFrz, wEnumT, wDict0, wDict1, numD3, Nat.reduceAdd, atI0, atI1, atI2, atI3, atI4, ixN51, ixN52, ixN53, List.length_map, scal, V.int.injEq, V.str.injEq, V.bl.injEq, wSq, wNext, wBreak, wDrop, wRet, wIfS, wAsg, wPar, wLstOwn, wAppend, wSetOwn, wIxOwn, wPeek, wRetFr, wFor, wB, wNot, wAnd, wOr, wAndV, wOrV, wNotV, wChain, wNil, wCons, wCB, wTup, wLst, wNoPart, wPart, wSlT, wSeq, wRng1, wRng2, wZip, wName, wNilT, wConsT, wTupT, wYes, wNeg, wVar, wC, wOp, wcNil, wcCons, wcOwn, wCall, wCallOwn, slots, cellsOf, OwnArgs, putBack, g2I, g2IC, gLen, gAbs, gGcd, gInt1, gTupleOf, gListOf, gIx, gCatT, gCat, gEq, gNe, gIsN, gNotN, scD, seqD_t, seqD_l, seqD_f, isNonD, List.nodup_cons, List.mem_cons, List.not_mem_nil, or_false, not_false_eq_true, Nat.reduceEqDiff, L3.Keeps, ends, wipeD, List.replicate, List.cons_append, List.nil_append, List.append_nil, List.getElem?_cons_zero, List.getElem?_cons_succ, List.set_cons_zero, List.set_cons_succ, List.getD_cons_zero, List.getD_cons_succ, List.length_cons, List.length_nil, List.nodup_nil, Option.some.injEq, Cell.dat.injEq, Cell.own.injEq, Cont.lst.injEq, D.bl.injEq, D.int.injEq, D.str.injEq, D.tup.injEq, D.lst.injEq, Arg.d.injEq, List.cons.injEq, exists_and_left, exists_and_right, exists_eq_left', exists_eq_left, exists_eq_right, exists_eq_right', exists_eq, exists_eq', and_true, true_and, and_assoc, and_self, exists_const, reduceCtorEq, web_wE, web_pE, webD_inj]
  cases d <;> simp_all [isIntD, isBetw]
  rename_i i
  refine ⟨fun h1 => ?_, fun h1 => ?_⟩
  · simpa [h1] using hq
  · have h2 : ¬ l ≤ i := by omega
    simpa [h2] using hq
theorem betw_int {l h : Int} {d : D} (e : isBetw l h d = true) : ∃ i, d = .int i ∧ l ≤ i ∧ i ≤ h := by
  cases d <;> simp [isBetw] at e
  exact ⟨_, rfl, e.1, e.2⟩
theorem ok_is_between (T : Txt K mg) : FnOk P w K mg base (L2.CX P w) 2 T.f_is_between T.fd_is_between ["low", "high", "thing"] (spOf K 3 (fs_is_between K)) := by
  refine def_ok T.F_is_between sc_is_between (wb := w_is_between K) pure_is_between ?_
  intro cdv A outer s H E hr tk
  exact ⟨_, (pss_one (ps_ret (pe_and (pe_callS (ok_is_integer T) (hr.mono (by decide)) rfl T.g_is_integer T.k_is_integer T.b_is_integer (fun σ => passAt tk σ) (pa_cons (pv 2) pa_nil)) (pe_one (pe_chain op_le op_le (pv 0) (pv 2) (pv 1)))))),
    (ds_ret (de_and (de_call (n := 1) (fs := fs_is_integer K) (dac_cons (de_var 2) dac_nil)) (de_chain o_le o_le (de_var 0) (de_var 2) (de_var 1))))⟩
abbrev s_is_tuple_of : Stmt := topS 4
theorem sc_is_tuple_of : FnScope ["low", "high", "thing"] ["low", "high", "thing"] (defScope s_is_tuple_of) := ⟨rfl, rfl, rfl, by decide +kernel, rfl, by decide +kernel, by decide +kernel⟩
def w_is_tuple_of (K : PySem.W.Frag) : SW := (wRet (wAndV (wCB (gIsi K) (wCons (wVar 2) (wCons (wC (.ty "tuple")) wNil))) (wChain gLeI gLeI (wVar 0) (wCB gLen (wCons (wVar 2) wNil)) (wVar 1))))
def isTupOf (l h : Int) : D → Bool | .tup ds => decide (l ≤ ds.length) && decide ((ds.length : Int) ≤ h) | _ => false
def fs_is_tuple_of (K : PySem.W.Frag) : FS := fun cs q _ => ∃ (l h : Int) (d : D), cs = [.dat (.int l), .dat (.int h), .dat d] ∧ OkD K d ∧ q (.bl (isTupOf l h d)) cs
theorem pure_is_tuple_of : PureD 3 0 (fs_is_tuple_of K) (w_is_tuple_of K) := by
  rintro cs q e - ⟨l, h, d, rfl, hd, hq⟩
  simp only [w_is_tuple_of, gIsi_iff hd (show "tuple" ∈ kinds by simp), wAsg2, wTold2, wEnumB, wListOfOwn, wRetOwnG, dcOf, wIsiT, offE, D.adr.injEq, Cont.pool.injEq, ixN31, ne_eq, List.map_cons, List.map_nil, wRaise0, wRaise1, wFrz, wEnumT, wDict0, wDict1, numD3, Nat.reduceAdd, atI0, atI1, atI2, atI3, atI4, ixN51, ixN52, ixN53, List.length_map, scal, V.int.injEq, V.str.injEq, V.bl.injEq, wSq, wNext, wBreak, wDrop, wRet, wIfS, wAsg, wPar, wLstOwn, wAppend, wSetOwn, wIxOwn, wPeek, wRetFr, wFor, wB, wNot, wAnd, wOr, wAndV, wOrV, wNotV, wChain, wNil, wCons, wCB, wTup, wLst, wNoPart, wPart, wSlT, wSeq, wRng1, wRng2, wZip, wName, wNilT, wConsT, wTupT, wYes, wNeg, wVar, wC, wOp, wcNil, wcCons, wcOwn, wCall, wCallOwn, slots, cellsOf, OwnArgs, putBack, g2I, g2IC, gLen, gAbs, gGcd, gInt1, gTupleOf, gListOf, gIx, gCatT, gCat, gEq, gNe, gIsN, gNotN, scD, seqD_t, seqD_l, seqD_f, isNonD, List.nodup_cons, List.mem_cons, List.not_mem_nil, or_false, not_false_eq_true, Nat.reduceEqDiff, L3.Keeps, ends, wipeD, List.replicate, List.cons_append, List.nil_append, List.append_nil, List.getElem?_cons_zero, List.getElem?_cons_succ, List.set_cons_zero, List.set_cons_succ, List.getD_cons_zero, List.getD_cons_succ, List.length_cons, List.length_nil, List.nodup_nil, Option.some.injEq, Cell.dat.injEq, Cell.own.injEq, Cont.lst.injEq, D.bl.injEq, D.int.injEq, D.str.injEq, D.tup.injEq, D.lst.injEq, Arg.d.injEq, List.cons.injEq, exists_and_left, exists_and_right, exists_eq_left', exists_eq_left, exists_eq_right, exists_eq_right', exists_eq, exists_eq', and_true, true_and, and_assoc, and_self, exists_const, reduceCtorEq, web_wE, web_pE, webD_inj]
  cases d <;> simp_all [isiD, isTupOf, seqD]
  rename_i ds
  refine ⟨fun h1 => ?_, fun h1 => ?_⟩
  · simpa [h1] using hq
  · have h2 : ¬ l ≤ (ds.length : Int) := by omega
    simpa [h2] using hq
theorem ok_is_tuple_of (T : Txt K mg) : FnOk P w K mg base (L2.CX P w) 1 T.f_is_tuple_of T.fd_is_tuple_of ["low", "high", "thing"] (spOf K 3 (fs_is_tuple_of K)) := by
  refine def_ok T.F_is_tuple_of sc_is_tuple_of (wb := w_is_tuple_of K) pure_is_tuple_of ?_
  intro cdv A outer s H E hr tk
  exact ⟨_, (pss_one (ps_ret (pe_and (pe_callB call_isi (by rfl) T.z_isinstance (by decide +kernel) (pa_cons (pv 2) (pa_cons (pe_bltn (v := .ty "tuple") (by rfl) T.z_tuple (by decide +kernel) rfl) pa_nil))) (pe_one (pe_chain op_le op_le (pv 0) (pe_callB call_len_seq (by rfl) T.z_len (by decide +kernel) (pa_cons (pv 2) pa_nil)) (pv 1)))))),
    (ds_ret (de_and (de_cb o_isi (da_cons (de_var 2) (da_cons de_ty da_nil))) (de_chain o_le o_le (de_var 0) (de_cb o_len (da_cons (de_var 2) da_nil)) (de_var 1))))⟩
abbrev s_is_fraction : Stmt := topS 5
theorem sc_is_fraction : FnScope ["thing", "top", "bottom"] ["thing"] (defScope s_is_fraction) := ⟨rfl, rfl, rfl, by decide +kernel, rfl, by decide +kernel, by decide +kernel⟩
def w_is_fraction (K : PySem.W.Frag) : SW := (wSq (wIfS (wNot (wB (wCall 3 (fs_is_tuple_of K) (wcCons (wC (.int 2)) (wcCons (wC (.int 2)) (wcCons (wVar 0) wcNil)))))) (wRet (wC (.bl false))) wNext)
  (wSq (wAsg (wVar 0) (wTupT 2 (wConsT (wName 1) (wConsT (wName 2) wNilT))))
  (wRet (wAndV (wCall 1 (fs_is_integer K) (wcCons (wVar 1) wcNil)) (wAndV (wCall 1 (fs_is_integer K) (wcCons (wVar 2) wcNil)) (wAndV (wOp gGeI (wVar 2) (wC (.int 1))) (wOp gEq (wCB gGcd (wCons (wVar 1) (wCons (wVar 2) wNil))) (wC (.int 1)))))))))
def isFr : D → Bool | .tup [.int t, .int b] => decide (1 ≤ b) && decide (Nat.gcd t.natAbs b.natAbs = 1) | _ => false
def fs_is_fraction (K : PySem.W.Frag) : FS := fun cs q _ => ∃ d, cs = [.dat d] ∧ OkD K d ∧ q (.bl (isFr d)) [.dat d]
theorem tup_two {d : D} (h : isTupOf 2 2 d = true) : ∃ x y, d = .tup [x, y] := by
  cases d <;> simp [isTupOf] at h
  rename_i ds
  match ds, h with
  | [], h => simp at h
  | [x], h => simp at h
  | [x, y], _ => exact ⟨x, y, rfl⟩
  | x :: y :: z :: r, h => simp at h; omega
theorem tup_not_two {d : D} (h : isTupOf 2 2 d = false) : isFr d = false := by
  cases d with
  | tup ds =>
    match ds with
    | [] => rfl
    | [x] => cases x <;> rfl
    | [x, y] => simp [isTupOf] at h
    | x :: y :: z :: r => cases x <;> cases y <;> rfl
  | _ => rfl
theorem int_of {x : D} (h : isIntD x = true) : ∃ i, x = .int i := by
  cases x <;> first | exact ⟨_, rfl⟩ | cases h
theorem fr_l {x y : D} (h : isIntD x = false) : isFr (.tup [x, y]) = false := by
  cases x <;> first | rfl | cases h
theorem fr_r {x y : D} (h : isIntD y = false) : isFr (.tup [x, y]) = false := by
  cases x <;> cases y <;> first | rfl | cases h
theorem pure_is_fraction : PureD 1 2 (fs_is_fraction K) (w_is_fraction K) := by
  rintro cs q e - ⟨d, rfl, hd, hq⟩
  cases h : isTupOf 2 2 d with
  | true =>
    obtain ⟨x, y, rfl⟩ := tup_two h
    have hx := okTup hd (d := x) (by simp)
    have hy := okTup hd (d := y) (by simp)
    simp only [w_is_fraction, fs_is_tuple_of, fs_is_integer, h, hd, hx, hy, wAsg2, wTold2, wEnumB, wListOfOwn, wRetOwnG, dcOf, wIsiT, offE, D.adr.injEq, Cont.pool.injEq, ixN31, ne_eq, List.map_cons, List.map_nil, wRaise0, wRaise1, wFrz, wEnumT, wDict0, wDict1, numD3, Nat.reduceAdd, atI0, atI1, atI2, atI3, atI4, ixN51, ixN52, ixN53, List.length_map, scal, V.int.injEq, V.str.injEq, V.bl.injEq, wSq, wNext, wBreak, wDrop, wRet, wIfS, wAsg, wPar, wLstOwn, wAppend, wSetOwn, wIxOwn, wPeek, wRetFr, wFor, wB, wNot, wAnd, wOr, wAndV, wOrV, wNotV, wChain, wNil, wCons, wCB, wTup, wLst, wNoPart, wPart, wSlT, wSeq, wRng1, wRng2, wZip, wName, wNilT, wConsT, wTupT, wYes, wNeg, wVar, wC, wOp, wcNil, wcCons, wcOwn, wCall, wCallOwn, slots, cellsOf, OwnArgs, putBack, g2I, g2IC, gLen, gAbs, gGcd, gInt1, gTupleOf, gListOf, gIx, gCatT, gCat, gEq, gNe, gIsN, gNotN, scD, seqD_t, seqD_l, seqD_f, isNonD, List.nodup_cons, List.mem_cons, List.not_mem_nil, or_false, not_false_eq_true, Nat.reduceEqDiff, L3.Keeps, ends, wipeD, List.replicate, List.cons_append, List.nil_append, List.append_nil, List.getElem?_cons_zero, List.getElem?_cons_succ, List.set_cons_zero, List.set_cons_succ, List.getD_cons_zero, List.getD_cons_succ, List.length_cons, List.length_nil, List.nodup_nil, Option.some.injEq, Cell.dat.injEq, Cell.own.injEq, Cont.lst.injEq, D.bl.injEq, D.int.injEq, D.str.injEq, D.tup.injEq, D.lst.injEq, Arg.d.injEq, List.cons.injEq, exists_and_left, exists_and_right, exists_eq_left', exists_eq_left, exists_eq_right, exists_eq_right', exists_eq, exists_eq', and_true, true_and, and_assoc, and_self, exists_const, reduceCtorEq, web_wE, web_pE, webD_inj]
    cases ix : isIntD x with
    | false =>
      rw [fr_l ix] at hq
      simpa using hq
    | true =>
      cases iy : isIntD y with
      | false =>
        rw [fr_r iy] at hq
        simpa using hq
      | true =>
        obtain ⟨t, rfl⟩ := int_of ix
        obtain ⟨b, rfl⟩ := int_of iy
        have e : isFr (.tup [.int t, .int b]) = (decide (1 ≤ b) && decide (((Nat.gcd t.natAbs b.natAbs : Nat) : Int) = 1)) := by
          simp only [isFr]
          congr 1
          exact decide_eq_decide.mpr (by omega)
        rw [e] at hq
        by_cases h1 : 1 ≤ b
        · simp [h1] at hq ⊢
          exact ⟨hq, fun z => absurd z (by omega)⟩
        · simp [h1] at hq ⊢
          exact fun _ => hq
  | false =>
    rw [tup_not_two h] at hq
    simp only [w_is_fraction, fs_is_tuple_of, fs_is_integer, h, hd, wAsg2, wTold2, wEnumB, wListOfOwn, wRetOwnG, dcOf, wIsiT, offE, D.adr.injEq, Cont.pool.injEq, ixN31, ne_eq, List.map_cons, List.map_nil, wRaise0, wRaise1, wFrz, wEnumT, wDict0, wDict1, numD3, Nat.reduceAdd, atI0, atI1, atI2, atI3, atI4, ixN51, ixN52, ixN53, List.length_map, scal, V.int.injEq, V.str.injEq, V.bl.injEq, wSq, wNext, wBreak, wDrop, wRet, wIfS, wAsg, wPar, wLstOwn, wAppend, wSetOwn, wIxOwn, wPeek, wRetFr, wFor, wB, wNot, wAnd, wOr, wAndV, wOrV, wNotV, wChain, wNil, wCons, wCB, wTup, wLst, wNoPart, wPart, wSlT, wSeq, wRng1, wRng2, wZip, wName, wNilT, wConsT, wTupT, wYes, wNeg, wVar, wC, wOp, wcNil, wcCons, wcOwn, wCall, wCallOwn, slots, cellsOf, OwnArgs, putBack, g2I, g2IC, gLen, gAbs, gGcd, gInt1, gTupleOf, gListOf, gIx, gCatT, gCat, gEq, gNe, gIsN, gNotN, scD, seqD_t, seqD_l, seqD_f, isNonD, List.nodup_cons, List.mem_cons, List.not_mem_nil, or_false, not_false_eq_true, Nat.reduceEqDiff, L3.Keeps, ends, wipeD, List.replicate, List.cons_append, List.nil_append, List.append_nil, List.getElem?_cons_zero, List.getElem?_cons_succ, List.set_cons_zero, List.set_cons_succ, List.getD_cons_zero, List.getD_cons_succ, List.length_cons, List.length_nil, List.nodup_nil, Option.some.injEq, Cell.dat.injEq, Cell.own.injEq, Cont.lst.injEq, D.bl.injEq, D.int.injEq, D.str.injEq, D.tup.injEq, D.lst.injEq, Arg.d.injEq, List.cons.injEq, exists_and_left, exists_and_right, exists_eq_left', exists_eq_left, exists_eq_right, exists_eq_right', exists_eq, exists_eq', and_true, true_and, and_assoc, and_self, exists_const, reduceCtorEq, web_wE, web_pE, webD_inj]
    simpa using hq
theorem ok_is_fraction (T : Txt K mg) : FnOk P w K mg base (L2.CX P w) 2 T.f_is_fraction T.fd_is_fraction ["thing"] (spOf K 1 (fs_is_fraction K)) := by
  refine def_ok T.F_is_fraction sc_is_fraction (wb := w_is_fraction K) pure_is_fraction ?_
  intro cdv A outer s H E hr tk
  exact ⟨_, (pss_cons (ps_if (pt_not (pt_val (pe_callS (ok_is_tuple_of T) (hr.mono (by decide)) rfl T.g_is_tuple_of T.k_is_tuple_of T.b_is_tuple_of (fun σ => passAt tk σ) (pa_cons pe_int (pa_cons pe_int (pa_cons (pv 0) pa_nil))))))
        (pss_one (ps_ret pe_bl))
        pss_nil)
      (pss_cons (ps_asg (pv 0) (pg_tup (by rfl) (pgs_cons (pg_name (i := 1) sc_is_fraction.nd rfl (by first | exact Or.inl rfl | exact Or.inr rfl)) (pgs_cons (pg_name (i := 2) sc_is_fraction.nd rfl (by first | exact Or.inl rfl | exact Or.inr rfl)) pgs_nil))))
      (pss_one (ps_ret (pe_and (pe_callS (ok_is_integer T) (hr.mono (by decide)) rfl T.g_is_integer T.k_is_integer T.b_is_integer (fun σ => passAt tk σ) (pa_cons (pv 1) pa_nil)) (pe_and (pe_callS (ok_is_integer T) (hr.mono (by decide)) rfl T.g_is_integer T.k_is_integer T.b_is_integer (fun σ => passAt tk σ) (pa_cons (pv 2) pa_nil)) (pe_and (pe_cmpR op_ge (pv 2) pe_int (nomark _)) (pe_one (pe_cmpR op_eq (pe_callBfun cr_gcd (by rfl) T.m_gcd (pa_cons (pv 1) (pa_cons (pv 2) pa_nil))) pe_int (nomark _)))))))))),
    (ds_seq (ds_if (dt_not (dt_B (de_call (n := 3) (fs := fs_is_tuple_of K) (dac_cons de_int (dac_cons de_int (dac_cons (de_var 0) dac_nil)))))) (ds_ret de_bl) ds_nil)
      (ds_seq (ds_asg (de_var 0) (dg_tup (n := 2) (dgs_cons (dg_name 1) (dgs_cons (dg_name 2) dgs_nil))))
      (ds_ret (de_and (de_call (n := 1) (fs := fs_is_integer K) (dac_cons (de_var 1) dac_nil)) (de_and (de_call (n := 1) (fs := fs_is_integer K) (dac_cons (de_var 2) dac_nil)) (de_and (de_op o_ge (de_var 2) de_int) (de_op o_eq (de_cb o_gcd (da_cons (de_var 1) (da_cons (de_var 2) da_nil))) de_int)))))))⟩
abbrev s_at_most : Stmt := topS 6
theorem sc_at_most : FnScope ["one", "other"] ["one", "other"] (defScope s_at_most) := ⟨rfl, rfl, rfl, by decide +kernel, rfl, by decide +kernel, by decide +kernel⟩
def w_at_most (K : PySem.W.Frag) : SW := (wRet (wOp gLeI (wOp gMulA (wOp gIx (wVar 0) (wC (.int 0))) (wOp gIx (wVar 1) (wC (.int 1)))) (wOp gMulA (wOp gIx (wVar 1) (wC (.int 0))) (wOp gIx (wVar 0) (wC (.int 1))))))
def fs_at_most (K : PySem.W.Frag) : FS := fun cs q _ => ∃ a b c d : Int, cs = [.dat (.tup [.int a, .int b]), .dat (.tup [.int c, .int d])] ∧ CMulA a d ∧ CMulA c b ∧ q (.bl (decide (a * d ≤ c * b))) cs
theorem pure_at_most : PureD 2 0 (fs_at_most K) (w_at_most K) := by
  rintro cs q e - ⟨a, b, c, d, rfl, h1, h2, hq⟩
  simp only [w_at_most, atI0, atI1, wAsg2, wTold2, wEnumB, wListOfOwn, wRetOwnG, dcOf, wIsiT, offE, D.adr.injEq, Cont.pool.injEq, ixN31, ne_eq, List.map_cons, List.map_nil, wRaise0, wRaise1, wFrz, wEnumT, wDict0, wDict1, numD3, Nat.reduceAdd, atI0, atI1, atI2, atI3, atI4, ixN51, ixN52, ixN53, List.length_map, scal, V.int.injEq, V.str.injEq, V.bl.injEq, wSq, wNext, wBreak, wDrop, wRet, wIfS, wAsg, wPar, wLstOwn, wAppend, wSetOwn, wIxOwn, wPeek, wRetFr, wFor, wB, wNot, wAnd, wOr, wAndV, wOrV, wNotV, wChain, wNil, wCons, wCB, wTup, wLst, wNoPart, wPart, wSlT, wSeq, wRng1, wRng2, wZip, wName, wNilT, wConsT, wTupT, wYes, wNeg, wVar, wC, wOp, wcNil, wcCons, wcOwn, wCall, wCallOwn, slots, cellsOf, OwnArgs, putBack, g2I, g2IC, gLen, gAbs, gGcd, gInt1, gTupleOf, gListOf, gIx, gCatT, gCat, gEq, gNe, gIsN, gNotN, scD, seqD_t, seqD_l, seqD_f, isNonD, List.nodup_cons, List.mem_cons, List.not_mem_nil, or_false, not_false_eq_true, Nat.reduceEqDiff, L3.Keeps, ends, wipeD, List.replicate, List.cons_append, List.nil_append, List.append_nil, List.getElem?_cons_zero, List.getElem?_cons_succ, List.set_cons_zero, List.set_cons_succ, List.getD_cons_zero, List.getD_cons_succ, List.length_cons, List.length_nil, List.nodup_nil, Option.some.injEq, Cell.dat.injEq, Cell.own.injEq, Cont.lst.injEq, D.bl.injEq, D.int.injEq, D.str.injEq, D.tup.injEq, D.lst.injEq, Arg.d.injEq, List.cons.injEq, exists_and_left, exists_and_right, exists_eq_left', exists_eq_left, exists_eq_right, exists_eq_right', exists_eq, exists_eq', and_true, true_and, and_assoc, and_self, exists_const, reduceCtorEq, web_wE, web_pE, webD_inj]
  exact ⟨h1, h2, hq⟩
theorem ok_at_most (T : Txt K mg) : FnOk P w K mg base (L2.CX P w) 1 T.f_at_most T.fd_at_most ["one", "other"] (spOf K 2 (fs_at_most K)) := by
  refine def_ok T.F_at_most sc_at_most (wb := w_at_most K) pure_at_most ?_
  intro cdv A outer s H E hr tk
  exact ⟨_, (pss_one (ps_ret (pe_cmpR op_le (pe_op op_mulA (pe_ix ix_seq (pv 0) pe_int (fun _ _ => rfl)) (pe_ix ix_seq (pv 1) pe_int (fun _ _ => rfl))) (pe_op op_mulA (pe_ix ix_seq (pv 1) pe_int (fun _ _ => rfl)) (pe_ix ix_seq (pv 0) pe_int (fun _ _ => rfl))) (nomark _)))),
    (ds_ret (de_op o_le (de_op o_mulA (de_op o_ix (de_var 0) de_int) (de_op o_ix (de_var 1) de_int)) (de_op o_mulA (de_op o_ix (de_var 1) de_int) (de_op o_ix (de_var 0) de_int))))⟩
abbrev s_is_threshold : Stmt := topS 17
theorem sc_is_threshold : FnScope ["thing"] ["thing"] (defScope s_is_threshold) := ⟨rfl, rfl, rfl, by decide +kernel, rfl, by decide +kernel, by decide +kernel⟩
def w_is_threshold (K : PySem.W.Frag) : SW := (wRet (wAndV (wCall 1 (fs_is_fraction K) (wcCons (wVar 0) wcNil)) (wAndV (wChain gLeI gLeI (wC (.int 1)) (wOp gIx (wVar 0) (wC (.int 0))) (wC (.int 1000000))) (wOp gLeI (wOp gIx (wVar 0) (wC (.int 1))) (wC (.int 144))))))
def isTh : D → Bool | .tup [.int t, .int b] => isFr (.tup [.int t, .int b]) && decide (1 ≤ t) && decide (t ≤ 1000000) && decide (b ≤ 144) | _ => false
def fs_is_threshold (K : PySem.W.Frag) : FS := fun cs q _ => ∃ d, cs = [.dat d] ∧ OkD K d ∧ q (.bl (isTh d)) [.dat d]
theorem fr_shape {d : D} (h : isFr d = true) : ∃ t b, d = .tup [.int t, .int b] := by
  cases d with
  | tup ds =>
    match ds with
    | [] => simp [isFr] at h
    | [x] => cases x <;> simp [isFr] at h
    | [x, y] => cases x <;> cases y <;> simp [isFr] at h; exact ⟨_, _, rfl⟩
    | x :: y :: z :: r => cases x <;> cases y <;> simp [isFr] at h
  | _ => simp [isFr] at h
theorem th_fr {d : D} (h : isFr d = false) : isTh d = false := by
  cases d with
  | tup ds =>
    match ds with
    | [] => rfl
    | [x] => cases x <;> rfl
    | [x, y] => cases x <;> cases y <;> simp_all [isTh]
    | x :: y :: z :: r => cases x <;> cases y <;> rfl
  | _ => rfl
theorem pure_is_threshold : PureD 1 0 (fs_is_threshold K) (w_is_threshold K) := by
  rintro cs q e - ⟨d, rfl, hd, hq⟩
  by_cases h : isFr d = true
  · obtain ⟨t, b, rfl⟩ := fr_shape h
    have e1 : isTh (.tup [.int t, .int b]) = (decide (1 ≤ t) && decide (t ≤ 1000000) && decide (b ≤ 144)) := by simp only [isTh, h, Bool.true_and]
    rw [e1] at hq
    simp only [w_is_threshold, fs_is_fraction, h, hd, atI0, atI1, wAsg2, wTold2, wEnumB, wListOfOwn, wRetOwnG, dcOf, wIsiT, offE, D.adr.injEq, Cont.pool.injEq, ixN31, ne_eq, List.map_cons, List.map_nil, wRaise0, wRaise1, wFrz, wEnumT, wDict0, wDict1, numD3, Nat.reduceAdd, atI0, atI1, atI2, atI3, atI4, ixN51, ixN52, ixN53, List.length_map, scal, V.int.injEq, V.str.injEq, V.bl.injEq, wSq, wNext, wBreak, wDrop, wRet, wIfS, wAsg, wPar, wLstOwn, wAppend, wSetOwn, wIxOwn, wPeek, wRetFr, wFor, wB, wNot, wAnd, wOr, wAndV, wOrV, wNotV, wChain, wNil, wCons, wCB, wTup, wLst, wNoPart, wPart, wSlT, wSeq, wRng1, wRng2, wZip, wName, wNilT, wConsT, wTupT, wYes, wNeg, wVar, wC, wOp, wcNil, wcCons, wcOwn, wCall, wCallOwn, slots, cellsOf, OwnArgs, putBack, g2I, g2IC, gLen, gAbs, gGcd, gInt1, gTupleOf, gListOf, gIx, gCatT, gCat, gEq, gNe, gIsN, gNotN, scD, seqD_t, seqD_l, seqD_f, isNonD, List.nodup_cons, List.mem_cons, List.not_mem_nil, or_false, not_false_eq_true, Nat.reduceEqDiff, L3.Keeps, ends, wipeD, List.replicate, List.cons_append, List.nil_append, List.append_nil, List.getElem?_cons_zero, List.getElem?_cons_succ, List.set_cons_zero, List.set_cons_succ, List.getD_cons_zero, List.getD_cons_succ, List.length_cons, List.length_nil, List.nodup_nil, Option.some.injEq, Cell.dat.injEq, Cell.own.injEq, Cont.lst.injEq, D.bl.injEq, D.int.injEq, D.str.injEq, D.tup.injEq, D.lst.injEq, Arg.d.injEq, List.cons.injEq, exists_and_left, exists_and_right, exists_eq_left', exists_eq_left, exists_eq_right, exists_eq_right', exists_eq, exists_eq', and_true, true_and, and_assoc, and_self, exists_const, reduceCtorEq, web_wE, web_pE, webD_inj]
    by_cases h1 : 1 ≤ t <;> by_cases h2 : t ≤ 1000000 <;> by_cases h3 : b ≤ 144 <;> simp [h1, h2, h3] at hq ⊢ <;> exact hq
  · have h : isFr d = false := by simpa using h
    rw [th_fr h] at hq
    simp only [w_is_threshold, fs_is_fraction, h, hd, wAsg2, wTold2, wEnumB, wListOfOwn, wRetOwnG, dcOf, wIsiT, offE, D.adr.injEq, Cont.pool.injEq, ixN31, ne_eq, List.map_cons, List.map_nil, wRaise0, wRaise1, wFrz, wEnumT, wDict0, wDict1, numD3, Nat.reduceAdd, atI0, atI1, atI2, atI3, atI4, ixN51, ixN52, ixN53, List.length_map, scal, V.int.injEq, V.str.injEq, V.bl.injEq, wSq, wNext, wBreak, wDrop, wRet, wIfS, wAsg, wPar, wLstOwn, wAppend, wSetOwn, wIxOwn, wPeek, wRetFr, wFor, wB, wNot, wAnd, wOr, wAndV, wOrV, wNotV, wChain, wNil, wCons, wCB, wTup, wLst, wNoPart, wPart, wSlT, wSeq, wRng1, wRng2, wZip, wName, wNilT, wConsT, wTupT, wYes, wNeg, wVar, wC, wOp, wcNil, wcCons, wcOwn, wCall, wCallOwn, slots, cellsOf, OwnArgs, putBack, g2I, g2IC, gLen, gAbs, gGcd, gInt1, gTupleOf, gListOf, gIx, gCatT, gCat, gEq, gNe, gIsN, gNotN, scD, seqD_t, seqD_l, seqD_f, isNonD, List.nodup_cons, List.mem_cons, List.not_mem_nil, or_false, not_false_eq_true, Nat.reduceEqDiff, L3.Keeps, ends, wipeD, List.replicate, List.cons_append, List.nil_append, List.append_nil, List.getElem?_cons_zero, List.getElem?_cons_succ, List.set_cons_zero, List.set_cons_succ, List.getD_cons_zero, List.getD_cons_succ, List.length_cons, List.length_nil, List.nodup_nil, Option.some.injEq, Cell.dat.injEq, Cell.own.injEq, Cont.lst.injEq, D.bl.injEq, D.int.injEq, D.str.injEq, D.tup.injEq, D.lst.injEq, Arg.d.injEq, List.cons.injEq, exists_and_left, exists_and_right, exists_eq_left', exists_eq_left, exists_eq_right, exists_eq_right', exists_eq, exists_eq', and_true, true_and, and_assoc, and_self, exists_const, reduceCtorEq, web_wE, web_pE, webD_inj]
    simp_all
theorem ok_is_threshold (T : Txt K mg) : FnOk P w K mg base (L2.CX P w) 3 T.f_is_threshold T.fd_is_threshold ["thing"] (spOf K 1 (fs_is_threshold K)) := by
  refine def_ok T.F_is_threshold sc_is_threshold (wb := w_is_threshold K) pure_is_threshold ?_
  intro cdv A outer s H E hr tk
  exact ⟨_, (pss_one (ps_ret (pe_and (pe_callS (ok_is_fraction T) (hr.mono (by decide)) rfl T.g_is_fraction T.k_is_fraction T.b_is_fraction (fun σ => passAt tk σ) (pa_cons (pv 0) pa_nil)) (pe_and (pe_chain op_le op_le pe_int (pe_ix ix_seq (pv 0) pe_int (fun _ _ => rfl)) (pe_glob (v := .int 1000000) rfl T.c_MOST_TOP ⟨_, rfl⟩)) (pe_one (pe_cmpR op_le (pe_ix ix_seq (pv 0) pe_int (fun _ _ => rfl)) (pe_glob (v := .int 144) rfl T.c_MOST_BOTTOM ⟨_, rfl⟩) (nomark _))))))),
    (ds_ret (de_and (de_call (n := 1) (fs := fs_is_fraction K) (dac_cons (de_var 0) dac_nil)) (de_and (de_chain o_le o_le de_int (de_op o_ix (de_var 0) de_int) de_int) (de_op o_le (de_op o_ix (de_var 0) de_int) de_int))))⟩
abbrev s_is_list : Stmt := topS 18
theorem sc_is_list : FnScope ["thing", "threshold", "low", "high"] ["thing"] (defScope s_is_list) := ⟨rfl, rfl, rfl, by decide +kernel, rfl, by decide +kernel, by decide +kernel⟩
def c1_is_list (K : PySem.W.Frag) : EW := wLc (wSeq (wVar 0)) (wName 1) wYes (wCall 1 (fs_is_threshold K) (wcCons (wVar 1) wcNil)) [1]
def c2_is_list (K : PySem.W.Frag) : EW := wLc (wZip (wCons (wVar 0) (wCons (wSlT (wVar 0) (wPart (wC (.int 1))) wNoPart) wNil))) (wTupT 2 (wConsT (wName 2) (wConsT (wName 3) wNilT))) wYes (wCall 2 (fs_at_most K) (wcCons (wVar 2) (wcCons (wVar 3) wcNil))) [2, 3]
def w_is_list (K : PySem.W.Frag) : SW := (wSq (wIfS (wNot (wB (wCall 3 (fs_is_tuple_of K) (wcCons (wC (.int 1)) (wcCons (wC (.int 6)) (wcCons (wVar 0) wcNil)))))) (wRet (wC (.bl false))) wNext)
  (wSq (wIfS (wNot (wB (wCB gAll (wCons (c1_is_list K) wNil)))) (wRet (wC (.bl false))) wNext)
  (wRet (wCB gAll (wCons (c2_is_list K) wNil)))))
def leP : D → Bool | .tup [.tup [.int a, .int b], .tup [.int c, .int d]] => decide (a * d ≤ c * b) | _ => false
def ascP (ds : List D) : Bool := (zipD ds (ds.drop 1)).all leP
def isLi : D → Bool | .tup ds => isTupOf 1 6 (.tup ds) && ds.all isTh && ascP ds | _ => false
def fs_is_list (K : PySem.W.Frag) : FS := fun cs q _ => ∃ d, cs = [.dat d] ∧ OkD K d ∧ q (.bl (isLi d)) [.dat d]
theorem filter_true {α : Type} {l : List α} : l.filter (fun _ => true) = l := by simp
theorem th_shape {d : D} (h : isTh d = true) : ∃ t b, d = .tup [.int t, .int b] ∧ 1 ≤ b ∧ b ≤ 144 ∧ 1 ≤ t ∧ t ≤ 1000000 := by
  cases h2 : isFr d with
  | false => rw [th_fr h2] at h; cases h
  | true =>
    obtain ⟨t, b, rfl⟩ := fr_shape h2
    simp [isTh, isFr] at h
    exact ⟨t, b, rfl, by omega, by omega, by omega, by omega⟩
theorem c1_is_list_ok {ds : List D} {c2 c3 c4 : Cell} {q : D → List Cell → Prop} {e : Xn → List Cell → Prop} (hd : OkD K (.tup ds)) (hn : ds.length ≤ 1000)
    (hq : q (.lst (ds.map fun d => .bl (isTh d))) [.dat (.tup ds), .any, c3, c4]) : c1_is_list K [.dat (.tup ds), c2, c3, c4] q e := by
  unfold c1_is_list wLc
  refine ⟨_, rfl, ds, rfl, lc_fm (fun d => .bl (isTh d)) (fun _ => true) hn (fun d hm k1 k2 h1 _ => ?_) (by rw [filter_true]; exact hq)⟩
  simp only [fs_is_threshold, okTup hd hm, wAsg2, wTold2, wEnumB, wListOfOwn, wRetOwnG, dcOf, wIsiT, offE, D.adr.injEq, Cont.pool.injEq, ixN31, ne_eq, List.map_cons, List.map_nil, wRaise0, wRaise1, wFrz, wEnumT, wDict0, wDict1, numD3, Nat.reduceAdd, atI0, atI1, atI2, atI3, atI4, ixN51, ixN52, ixN53, List.length_map, scal, V.int.injEq, V.str.injEq, V.bl.injEq, wSq, wNext, wBreak, wDrop, wRet, wIfS, wAsg, wPar, wLstOwn, wAppend, wSetOwn, wIxOwn, wPeek, wRetFr, wFor, wB, wNot, wAnd, wOr, wAndV, wOrV, wNotV, wChain, wNil, wCons, wCB, wTup, wLst, wNoPart, wPart, wSlT, wSeq, wRng1, wRng2, wZip, wName, wNilT, wConsT, wTupT, wYes, wNeg, wVar, wC, wOp, wcNil, wcCons, wcOwn, wCall, wCallOwn, slots, cellsOf, OwnArgs, putBack, g2I, g2IC, gLen, gAbs, gGcd, gInt1, gTupleOf, gListOf, gIx, gCatT, gCat, gEq, gNe, gIsN, gNotN, scD, seqD_t, seqD_l, seqD_f, isNonD, List.nodup_cons, List.mem_cons, List.not_mem_nil, or_false, not_false_eq_true, Nat.reduceEqDiff, L3.Keeps, ends, wipeD, List.replicate, List.cons_append, List.nil_append, List.append_nil, List.getElem?_cons_zero, List.getElem?_cons_succ, List.set_cons_zero, List.set_cons_succ, List.getD_cons_zero, List.getD_cons_succ, List.length_cons, List.length_nil, List.nodup_nil, Option.some.injEq, Cell.dat.injEq, Cell.own.injEq, Cont.lst.injEq, D.bl.injEq, D.int.injEq, D.str.injEq, D.tup.injEq, D.lst.injEq, Arg.d.injEq, List.cons.injEq, exists_and_left, exists_and_right, exists_eq_left', exists_eq_left, exists_eq_right, exists_eq_right', exists_eq, exists_eq', and_true, true_and, and_assoc, and_self, exists_const, reduceCtorEq, web_wE, web_pE, webD_inj]
  simp only [true_implies]
  refine ⟨h1 rfl _ rfl, fun z => nomatch z⟩
theorem sIx1 (n : Nat) : HT.sIx n 0 (some 1) = min 1 n := HT.sIx_nat n 0 1
theorem cutD1 {ds : List D} : cutDs ds (some 1) none = ds.drop 1 := by
  unfold cutDs
  rw [sIx1, HT.sIx_none]
  cases ds with
  | nil => rfl
  | cons x r =>
    have : min 1 (x :: r).length = 1 := by simp only [List.length_cons]; omega
    rw [this]
    exact List.take_of_length_le (by simp)
theorem cut_some {ds : List D} (h : 1 ≤ ds.length) : ¬ (HT.sIx ds.length 0 (some 1) = 0 ∧ HT.sIx ds.length ds.length none = ds.length) := fun ⟨z, _⟩ => by
  rw [sIx1] at z
  omega
theorem zip_mem {xs ys : List D} {d : D} (h : d ∈ zipD xs ys) : ∃ x y, x ∈ xs ∧ y ∈ ys ∧ d = .tup [x, y] := by
  unfold zipD at h
  obtain ⟨i, hi, e⟩ := List.getElem_of_mem h
  rw [List.getElem_zipWith] at e
  exact ⟨_, _, List.getElem_mem _, List.getElem_mem _, e.symm⟩
theorem c2_is_list_ok {ds : List D} {c2 c3 c4 : Cell} {q : D → List Cell → Prop} {e : Xn → List Cell → Prop} (h1 : 1 ≤ ds.length) (hn : ds.length ≤ 1000) (ht : ∀ d ∈ ds, isTh d = true)
    (hq : q (.lst ((zipD ds (ds.drop 1)).map fun d => .bl (leP d))) [.dat (.tup ds), c2, .any, .any]) : c2_is_list K [.dat (.tup ds), c2, c3, c4] q e := by
  unfold c2_is_list wLc
  refine ⟨_, rfl, _, rfl, 1, rfl, ds, rfl, cut_some h1, ds, ds.drop 1, .inl (by rw [cutD1]), lc_fm (fun d => .bl (leP d)) (fun _ => true) ?_ (fun d hm k1 k2 h1 _ => ?_) (by rw [filter_true]; exact hq)⟩
  · unfold zipD
    rw [List.length_zipWith]
    omega
  · obtain ⟨x, y, hx, hy, rfl⟩ := zip_mem hm
    obtain ⟨a, b, rfl, b1, b2, b3, b4⟩ := th_shape (ht x hx)
    obtain ⟨c, d, rfl, d1, d2, d3, d4⟩ := th_shape (ht y (List.mem_of_mem_drop hy))
    simp only [fs_at_most, wAsg2, wTold2, wEnumB, wListOfOwn, wRetOwnG, dcOf, wIsiT, offE, D.adr.injEq, Cont.pool.injEq, ixN31, ne_eq, List.map_cons, List.map_nil, wRaise0, wRaise1, wFrz, wEnumT, wDict0, wDict1, numD3, Nat.reduceAdd, atI0, atI1, atI2, atI3, atI4, ixN51, ixN52, ixN53, List.length_map, scal, V.int.injEq, V.str.injEq, V.bl.injEq, wSq, wNext, wBreak, wDrop, wRet, wIfS, wAsg, wPar, wLstOwn, wAppend, wSetOwn, wIxOwn, wPeek, wRetFr, wFor, wB, wNot, wAnd, wOr, wAndV, wOrV, wNotV, wChain, wNil, wCons, wCB, wTup, wLst, wNoPart, wPart, wSlT, wSeq, wRng1, wRng2, wZip, wName, wNilT, wConsT, wTupT, wYes, wNeg, wVar, wC, wOp, wcNil, wcCons, wcOwn, wCall, wCallOwn, slots, cellsOf, OwnArgs, putBack, g2I, g2IC, gLen, gAbs, gGcd, gInt1, gTupleOf, gListOf, gIx, gCatT, gCat, gEq, gNe, gIsN, gNotN, scD, seqD_t, seqD_l, seqD_f, isNonD, List.nodup_cons, List.mem_cons, List.not_mem_nil, or_false, not_false_eq_true, Nat.reduceEqDiff, L3.Keeps, ends, wipeD, List.replicate, List.cons_append, List.nil_append, List.append_nil, List.getElem?_cons_zero, List.getElem?_cons_succ, List.set_cons_zero, List.set_cons_succ, List.getD_cons_zero, List.getD_cons_succ, List.length_cons, List.length_nil, List.nodup_nil, Option.some.injEq, Cell.dat.injEq, Cell.own.injEq, Cont.lst.injEq, D.bl.injEq, D.int.injEq, D.str.injEq, D.tup.injEq, D.lst.injEq, Arg.d.injEq, List.cons.injEq, exists_and_left, exists_and_right, exists_eq_left', exists_eq_left, exists_eq_right, exists_eq_right', exists_eq, exists_eq', and_true, true_and, and_assoc, and_self, exists_const, reduceCtorEq, web_wE, web_pE, webD_inj]
    simp only [true_implies]
    exact ⟨⟨cmul_r (by omega) (by omega), cmul_r (by omega) (by omega), h1 rfl _ rfl⟩, fun z => z.elim⟩
theorem all_map {α : Type} {l : List α} {f : α → Bool} : (l.map f).all id = l.all f := by simp
theorem gAll_map {α : Type} {l : List α} {f : α → Bool} {q : D → Prop} (h : q (.bl (l.all f))) : gAll [.lst (l.map fun d => .bl (f d))] q :=
  ⟨_, l.map f, .inl rfl, by simp, by rw [all_map]; exact h⟩
theorem pure_is_list : PureD 1 3 (fs_is_list K) (w_is_list K) := by
  rintro cs q e - ⟨d, rfl, hd, hq⟩
  cases h : isTupOf 1 6 d with
  | false =>
    have e1 : isLi d = false := by cases d <;> simp_all [isLi]
    rw [e1] at hq
    simp only [w_is_list, fs_is_tuple_of, h, hd, wAsg2, wTold2, wEnumB, wListOfOwn, wRetOwnG, dcOf, wIsiT, offE, D.adr.injEq, Cont.pool.injEq, ixN31, ne_eq, List.map_cons, List.map_nil, wRaise0, wRaise1, wFrz, wEnumT, wDict0, wDict1, numD3, Nat.reduceAdd, atI0, atI1, atI2, atI3, atI4, ixN51, ixN52, ixN53, List.length_map, scal, V.int.injEq, V.str.injEq, V.bl.injEq, wSq, wNext, wBreak, wDrop, wRet, wIfS, wAsg, wPar, wLstOwn, wAppend, wSetOwn, wIxOwn, wPeek, wRetFr, wFor, wB, wNot, wAnd, wOr, wAndV, wOrV, wNotV, wChain, wNil, wCons, wCB, wTup, wLst, wNoPart, wPart, wSlT, wSeq, wRng1, wRng2, wZip, wName, wNilT, wConsT, wTupT, wYes, wNeg, wVar, wC, wOp, wcNil, wcCons, wcOwn, wCall, wCallOwn, slots, cellsOf, OwnArgs, putBack, g2I, g2IC, gLen, gAbs, gGcd, gInt1, gTupleOf, gListOf, gIx, gCatT, gCat, gEq, gNe, gIsN, gNotN, scD, seqD_t, seqD_l, seqD_f, isNonD, List.nodup_cons, List.mem_cons, List.not_mem_nil, or_false, not_false_eq_true, Nat.reduceEqDiff, L3.Keeps, ends, wipeD, List.replicate, List.cons_append, List.nil_append, List.append_nil, List.getElem?_cons_zero, List.getElem?_cons_succ, List.set_cons_zero, List.set_cons_succ, List.getD_cons_zero, List.getD_cons_succ, List.length_cons, List.length_nil, List.nodup_nil, Option.some.injEq, Cell.dat.injEq, Cell.own.injEq, Cont.lst.injEq, D.bl.injEq, D.int.injEq, D.str.injEq, D.tup.injEq, D.lst.injEq, Arg.d.injEq, List.cons.injEq, exists_and_left, exists_and_right, exists_eq_left', exists_eq_left, exists_eq_right, exists_eq_right', exists_eq, exists_eq', and_true, true_and, and_assoc, and_self, exists_const, reduceCtorEq, web_wE, web_pE, webD_inj]
    simp_all
  | true =>
    cases d <;> simp [isTupOf] at h
    rename_i ds
    have h' : isTupOf 1 6 (.tup ds) = true := by simp [isTupOf]; omega
    simp only [w_is_list, fs_is_tuple_of, h', hd, wAsg2, wTold2, wEnumB, wListOfOwn, wRetOwnG, dcOf, wIsiT, offE, D.adr.injEq, Cont.pool.injEq, ixN31, ne_eq, List.map_cons, List.map_nil, wRaise0, wRaise1, wFrz, wEnumT, wDict0, wDict1, numD3, Nat.reduceAdd, atI0, atI1, atI2, atI3, atI4, ixN51, ixN52, ixN53, List.length_map, scal, V.int.injEq, V.str.injEq, V.bl.injEq, wSq, wNext, wBreak, wDrop, wRet, wIfS, wAsg, wPar, wLstOwn, wAppend, wSetOwn, wIxOwn, wPeek, wRetFr, wFor, wB, wNot, wAnd, wOr, wAndV, wOrV, wNotV, wChain, wNil, wCons, wCB, wTup, wLst, wNoPart, wPart, wSlT, wSeq, wRng1, wRng2, wZip, wName, wNilT, wConsT, wTupT, wYes, wNeg, wVar, wC, wOp, wcNil, wcCons, wcOwn, wCall, wCallOwn, slots, cellsOf, OwnArgs, putBack, g2I, g2IC, gLen, gAbs, gGcd, gInt1, gTupleOf, gListOf, gIx, gCatT, gCat, gEq, gNe, gIsN, gNotN, scD, seqD_t, seqD_l, seqD_f, isNonD, List.nodup_cons, List.mem_cons, List.not_mem_nil, or_false, not_false_eq_true, Nat.reduceEqDiff, L3.Keeps, ends, wipeD, List.replicate, List.cons_append, List.nil_append, List.append_nil, List.getElem?_cons_zero, List.getElem?_cons_succ, List.set_cons_zero, List.set_cons_succ, List.getD_cons_zero, List.getD_cons_succ, List.length_cons, List.length_nil, List.nodup_nil, Option.some.injEq, Cell.dat.injEq, Cell.own.injEq, Cont.lst.injEq, D.bl.injEq, D.int.injEq, D.str.injEq, D.tup.injEq, D.lst.injEq, Arg.d.injEq, List.cons.injEq, exists_and_left, exists_and_right, exists_eq_left', exists_eq_left, exists_eq_right, exists_eq_right', exists_eq, exists_eq', and_true, true_and, and_assoc, and_self, exists_const, reduceCtorEq, web_wE, web_pE, webD_inj]
    simp only [Bool.not_true, Bool.false_eq_true, false_implies, true_implies, true_and]
    refine c1_is_list_ok hd (by omega) (gAll_map ?_)
    cases ht : ds.all isTh with
    | false =>
      have e1 : isLi (.tup ds) = false := by simp only [isLi, h', ht]; rfl
      rw [e1] at hq
      simp only [wAsg2, wTold2, wEnumB, wListOfOwn, wRetOwnG, dcOf, wIsiT, offE, D.adr.injEq, Cont.pool.injEq, ixN31, ne_eq, List.map_cons, List.map_nil, wRaise0, wRaise1, wFrz, wEnumT, wDict0, wDict1, numD3, Nat.reduceAdd, atI0, atI1, atI2, atI3, atI4, ixN51, ixN52, ixN53, List.length_map, scal, V.int.injEq, V.str.injEq, V.bl.injEq, wSq, wNext, wBreak, wDrop, wRet, wIfS, wAsg, wPar, wLstOwn, wAppend, wSetOwn, wIxOwn, wPeek, wRetFr, wFor, wB, wNot, wAnd, wOr, wAndV, wOrV, wNotV, wChain, wNil, wCons, wCB, wTup, wLst, wNoPart, wPart, wSlT, wSeq, wRng1, wRng2, wZip, wName, wNilT, wConsT, wTupT, wYes, wNeg, wVar, wC, wOp, wcNil, wcCons, wcOwn, wCall, wCallOwn, slots, cellsOf, OwnArgs, putBack, g2I, g2IC, gLen, gAbs, gGcd, gInt1, gTupleOf, gListOf, gIx, gCatT, gCat, gEq, gNe, gIsN, gNotN, scD, seqD_t, seqD_l, seqD_f, isNonD, List.nodup_cons, List.mem_cons, List.not_mem_nil, or_false, not_false_eq_true, Nat.reduceEqDiff, L3.Keeps, ends, wipeD, List.replicate, List.cons_append, List.nil_append, List.append_nil, List.getElem?_cons_zero, List.getElem?_cons_succ, List.set_cons_zero, List.set_cons_succ, List.getD_cons_zero, List.getD_cons_succ, List.length_cons, List.length_nil, List.nodup_nil, Option.some.injEq, Cell.dat.injEq, Cell.own.injEq, Cont.lst.injEq, D.bl.injEq, D.int.injEq, D.str.injEq, D.tup.injEq, D.lst.injEq, Arg.d.injEq, List.cons.injEq, exists_and_left, exists_and_right, exists_eq_left', exists_eq_left, exists_eq_right, exists_eq_right', exists_eq, exists_eq', and_true, true_and, and_assoc, and_self, exists_const, reduceCtorEq, web_wE, web_pE, webD_inj]
      simp_all
    | true =>
      have e1 : isLi (.tup ds) = ascP ds := by simp only [isLi, h', ht]; rfl
      rw [e1] at hq
      simp only [wAsg2, wTold2, wEnumB, wListOfOwn, wRetOwnG, dcOf, wIsiT, offE, D.adr.injEq, Cont.pool.injEq, ixN31, ne_eq, List.map_cons, List.map_nil, wRaise0, wRaise1, wFrz, wEnumT, wDict0, wDict1, numD3, Nat.reduceAdd, atI0, atI1, atI2, atI3, atI4, ixN51, ixN52, ixN53, List.length_map, scal, V.int.injEq, V.str.injEq, V.bl.injEq, wSq, wNext, wBreak, wDrop, wRet, wIfS, wAsg, wPar, wLstOwn, wAppend, wSetOwn, wIxOwn, wPeek, wRetFr, wFor, wB, wNot, wAnd, wOr, wAndV, wOrV, wNotV, wChain, wNil, wCons, wCB, wTup, wLst, wNoPart, wPart, wSlT, wSeq, wRng1, wRng2, wZip, wName, wNilT, wConsT, wTupT, wYes, wNeg, wVar, wC, wOp, wcNil, wcCons, wcOwn, wCall, wCallOwn, slots, cellsOf, OwnArgs, putBack, g2I, g2IC, gLen, gAbs, gGcd, gInt1, gTupleOf, gListOf, gIx, gCatT, gCat, gEq, gNe, gIsN, gNotN, scD, seqD_t, seqD_l, seqD_f, isNonD, List.nodup_cons, List.mem_cons, List.not_mem_nil, or_false, not_false_eq_true, Nat.reduceEqDiff, L3.Keeps, ends, wipeD, List.replicate, List.cons_append, List.nil_append, List.append_nil, List.getElem?_cons_zero, List.getElem?_cons_succ, List.set_cons_zero, List.set_cons_succ, List.getD_cons_zero, List.getD_cons_succ, List.length_cons, List.length_nil, List.nodup_nil, Option.some.injEq, Cell.dat.injEq, Cell.own.injEq, Cont.lst.injEq, D.bl.injEq, D.int.injEq, D.str.injEq, D.tup.injEq, D.lst.injEq, Arg.d.injEq, List.cons.injEq, exists_and_left, exists_and_right, exists_eq_left', exists_eq_left, exists_eq_right, exists_eq_right', exists_eq, exists_eq', and_true, true_and, and_assoc, and_self, exists_const, reduceCtorEq, web_wE, web_pE, webD_inj]
      simp only [Bool.not_true, Bool.false_eq_true, false_implies, true_implies, true_and]
      refine c2_is_list_ok (by omega) (by omega) (by simpa using ht) (gAll_map ?_)
      simp only [wAsg2, wTold2, wEnumB, wListOfOwn, wRetOwnG, dcOf, wIsiT, offE, D.adr.injEq, Cont.pool.injEq, ixN31, ne_eq, List.map_cons, List.map_nil, wRaise0, wRaise1, wFrz, wEnumT, wDict0, wDict1, numD3, Nat.reduceAdd, atI0, atI1, atI2, atI3, atI4, ixN51, ixN52, ixN53, List.length_map, scal, V.int.injEq, V.str.injEq, V.bl.injEq, wSq, wNext, wBreak, wDrop, wRet, wIfS, wAsg, wPar, wLstOwn, wAppend, wSetOwn, wIxOwn, wPeek, wRetFr, wFor, wB, wNot, wAnd, wOr, wAndV, wOrV, wNotV, wChain, wNil, wCons, wCB, wTup, wLst, wNoPart, wPart, wSlT, wSeq, wRng1, wRng2, wZip, wName, wNilT, wConsT, wTupT, wYes, wNeg, wVar, wC, wOp, wcNil, wcCons, wcOwn, wCall, wCallOwn, slots, cellsOf, OwnArgs, putBack, g2I, g2IC, gLen, gAbs, gGcd, gInt1, gTupleOf, gListOf, gIx, gCatT, gCat, gEq, gNe, gIsN, gNotN, scD, seqD_t, seqD_l, seqD_f, isNonD, List.nodup_cons, List.mem_cons, List.not_mem_nil, or_false, not_false_eq_true, Nat.reduceEqDiff, L3.Keeps, ends, wipeD, List.replicate, List.cons_append, List.nil_append, List.append_nil, List.getElem?_cons_zero, List.getElem?_cons_succ, List.set_cons_zero, List.set_cons_succ, List.getD_cons_zero, List.getD_cons_succ, List.length_cons, List.length_nil, List.nodup_nil, Option.some.injEq, Cell.dat.injEq, Cell.own.injEq, Cont.lst.injEq, D.bl.injEq, D.int.injEq, D.str.injEq, D.tup.injEq, D.lst.injEq, Arg.d.injEq, List.cons.injEq, exists_and_left, exists_and_right, exists_eq_left', exists_eq_left, exists_eq_right, exists_eq_right', exists_eq, exists_eq', and_true, true_and, and_assoc, and_self, exists_const, reduceCtorEq, web_wE, web_pE, webD_inj]
      exact hq
theorem ok_is_list (T : Txt K mg) : FnOk P w K mg base (L2.CX P w) 4 T.f_is_list T.fd_is_list ["thing"] (spOf K 1 (fs_is_list K)) := by
  refine def_ok T.F_is_list sc_is_list (wb := w_is_list K) pure_is_list ?_
  intro cdv A outer s H E hr tk
  exact ⟨_, (pss_cons (ps_if (pt_not (pt_val (pe_callS (ok_is_tuple_of T) (hr.mono (by decide)) rfl T.g_is_tuple_of T.k_is_tuple_of T.b_is_tuple_of (fun σ => passAt tk σ) (pa_cons pe_int (pa_cons (pe_glob (v := .int 6) rfl T.c_MOST_THRESHOLDS ⟨_, rfl⟩) (pa_cons (pv 0) pa_nil))))))
        (pss_one (ps_ret pe_bl))
        pss_nil)
      (pss_cons (ps_if (pt_not (pt_val (pe_callB (cr_all (by rfl)) (by rfl) T.z_all (by decide +kernel) (pa_cons (pe_lc (own := [("threshold", 1)]) (g := (gName 1)) (tt := tYes) (te := (tCallS (spOf K 1 (fs_is_threshold K)) (L2.WE W0) (tCons (tVar 1) tNil))) rfl sc_is_list.nd (pi_seq (pv 0)) (blkOk_by (N := ["thing", "threshold", "low", "high"]) (sc := defScope s_is_list) (by decide +kernel)) (fun _ _ _ _ _ => (pg_name (i := 1) sc_is_list.nd rfl (by first | exact Or.inl rfl | exact Or.inr rfl))) (fun _ _ _ _ _ => pts_nil) (fun _ _ _ _ _ => (pe_callS (ok_is_threshold T) (hr.mono (by decide)) rfl T.g_is_threshold T.k_is_threshold T.b_is_threshold (fun σ => passAt L2.takes0 σ) (pa_cons (pv 1) pa_nil)))) pa_nil))))
        (pss_one (ps_ret pe_bl))
        pss_nil)
      (pss_one (ps_ret (pe_callB (cr_all (by rfl)) (by rfl) T.z_all (by decide +kernel) (pa_cons (pe_lc (own := [("low", 2), ("high", 3)]) (g := (gTup K 2 (gCons (gName 2) (gCons (gName 3) gNil)))) (tt := tYes) (te := (tCallS (spOf K 2 (fs_at_most K)) (L2.WE W0) (tCons (tVar 2) (tCons (tVar 3) tNil)))) rfl sc_is_list.nd (RZ.pi_zipA (by rfl) T.z_zip (pa_cons (pv 0) (pa_cons (pe_slice sl_tup (pv 0) (po_some pe_int) po_none) pa_nil))) (blkOk_by (N := ["thing", "threshold", "low", "high"]) (sc := defScope s_is_list) (by decide +kernel)) (fun _ _ _ _ _ => (pg_tup (by rfl) (pgs_cons (pg_name (i := 2) sc_is_list.nd rfl (by first | exact Or.inl rfl | exact Or.inr rfl)) (pgs_cons (pg_name (i := 3) sc_is_list.nd rfl (by first | exact Or.inl rfl | exact Or.inr rfl)) pgs_nil)))) (fun _ _ _ _ _ => pts_nil) (fun _ _ _ _ _ => (pe_callS (ok_at_most T) (hr.mono (by decide)) rfl T.g_at_most T.k_at_most T.b_at_most (fun σ => passAt L2.takes0 σ) (pa_cons (pv 2) (pa_cons (pv 3) pa_nil))))) pa_nil)))))),
    (ds_seq (ds_if (dt_not (dt_B (de_call (n := 3) (fs := fs_is_tuple_of K) (dac_cons de_int (dac_cons de_int (dac_cons (de_var 0) dac_nil)))))) (ds_ret de_bl) ds_nil)
      (ds_seq (ds_if (dt_not (dt_B (de_cb o_all (da_cons (de_lc (vs := [1]) (wI := (wSeq (wVar 0))) (wg := (wName 1)) (wt := wYes) (we := (wCall 1 (fs_is_threshold K) (wcCons (wVar 1) wcNil))) (di_seq (de_var 0)) (dg_name 1) dt_yes (de_call (n := 1) (fs := fs_is_threshold K) (dac_cons (de_var 1) dac_nil)) (by decide)) da_nil)))) (ds_ret de_bl) ds_nil)
      (ds_ret (de_cb o_all (da_cons (de_lc (vs := [2, 3]) (wI := (wZip (wCons (wVar 0) (wCons (wSlT (wVar 0) (wPart (wC (.int 1))) wNoPart) wNil)))) (wg := (wTupT 2 (wConsT (wName 2) (wConsT (wName 3) wNilT)))) (wt := wYes) (we := (wCall 2 (fs_at_most K) (wcCons (wVar 2) (wcCons (wVar 3) wcNil)))) (di_zip (da_cons (de_var 0) (da_cons (de_slT (de_var 0) (do_part de_int) do_no) da_nil))) (dg_tup (n := 2) (dgs_cons (dg_name 2) (dgs_cons (dg_name 3) dgs_nil))) dt_yes (de_call (n := 2) (fs := fs_at_most K) (dac_cons (de_var 2) (dac_cons (de_var 3) dac_nil))) (by decide)) da_nil)))))⟩
abbrev s_is_width : Stmt := topS 19
theorem sc_is_width : FnScope ["thing"] ["thing"] (defScope s_is_width) := ⟨rfl, rfl, rfl, by decide +kernel, rfl, by decide +kernel, by decide +kernel⟩
def w_is_width (K : PySem.W.Frag) : SW := (wRet (wCall 3 (fs_is_between K) (wcCons (wC (.int 0)) (wcCons (wC (.int 12)) (wcCons (wVar 0) wcNil)))))
def fs_is_width (K : PySem.W.Frag) : FS := fun cs q _ => ∃ d, cs = [.dat d] ∧ OkD K d ∧ q (.bl (isBetw 0 12 d)) cs
theorem pure_is_width : PureD 1 0 (fs_is_width K) (w_is_width K) := by
  rintro cs q e - ⟨d, rfl, hd, hq⟩
  simp only [w_is_width, fs_is_between, hd, wAsg2, wTold2, wEnumB, wListOfOwn, wRetOwnG, dcOf, wIsiT, offE, D.adr.injEq, Cont.pool.injEq, ixN31, ne_eq, List.map_cons, List.map_nil, wRaise0, wRaise1, wFrz, wEnumT, wDict0, wDict1, numD3, Nat.reduceAdd, atI0, atI1, atI2, atI3, atI4, ixN51, ixN52, ixN53, List.length_map, scal, V.int.injEq, V.str.injEq, V.bl.injEq, wSq, wNext, wBreak, wDrop, wRet, wIfS, wAsg, wPar, wLstOwn, wAppend, wSetOwn, wIxOwn, wPeek, wRetFr, wFor, wB, wNot, wAnd, wOr, wAndV, wOrV, wNotV, wChain, wNil, wCons, wCB, wTup, wLst, wNoPart, wPart, wSlT, wSeq, wRng1, wRng2, wZip, wName, wNilT, wConsT, wTupT, wYes, wNeg, wVar, wC, wOp, wcNil, wcCons, wcOwn, wCall, wCallOwn, slots, cellsOf, OwnArgs, putBack, g2I, g2IC, gLen, gAbs, gGcd, gInt1, gTupleOf, gListOf, gIx, gCatT, gCat, gEq, gNe, gIsN, gNotN, scD, seqD_t, seqD_l, seqD_f, isNonD, List.nodup_cons, List.mem_cons, List.not_mem_nil, or_false, not_false_eq_true, Nat.reduceEqDiff, L3.Keeps, ends, wipeD, List.replicate, List.cons_append, List.nil_append, List.append_nil, List.getElem?_cons_zero, List.getElem?_cons_succ, List.set_cons_zero, List.set_cons_succ, List.getD_cons_zero, List.getD_cons_succ, List.length_cons, List.length_nil, List.nodup_nil, Option.some.injEq, Cell.dat.injEq, Cell.own.injEq, Cont.lst.injEq, D.bl.injEq, D.int.injEq, D.str.injEq, D.tup.injEq, D.lst.injEq, Arg.d.injEq, List.cons.injEq, exists_and_left, exists_and_right, exists_eq_left', exists_eq_left, exists_eq_right, exists_eq_right', exists_eq, exists_eq', and_true, true_and, and_assoc, and_self, exists_const, reduceCtorEq, web_wE, web_pE, webD_inj]
  exact hq
theorem ok_is_width (T : Txt K mg) : FnOk P w K mg base (L2.CX P w) 3 T.f_is_width T.fd_is_width ["thing"] (spOf K 1 (fs_is_width K)) := by
  refine def_ok T.F_is_width sc_is_width (wb := w_is_width K) pure_is_width ?_
  intro cdv A outer s H E hr tk
  exact ⟨_, (pss_one (ps_ret (pe_callS (ok_is_between T) (hr.mono (by decide)) rfl T.g_is_between T.k_is_between T.b_is_between (fun σ => passAt tk σ) (pa_cons pe_int (pa_cons (pe_glob (v := .int 12) rfl T.c_MOST_WIDTH ⟨_, rfl⟩) (pa_cons (pv 0) pa_nil)))))),
    (ds_ret (de_call (n := 3) (fs := fs_is_between K) (dac_cons de_int (dac_cons de_int (dac_cons (de_var 0) dac_nil)))))⟩
abbrev s_is_widths : Stmt := topS 23
theorem sc_is_widths : FnScope ["thing", "width"] ["thing"] (defScope s_is_widths) := ⟨rfl, rfl, rfl, by decide +kernel, rfl, by decide +kernel, by decide +kernel⟩
def c1_is_widths (K : PySem.W.Frag) : EW := wLc (wSeq (wVar 0)) (wName 1) wYes (wCall 1 (fs_is_width K) (wcCons (wVar 1) wcNil)) [1]
def w_is_widths (K : PySem.W.Frag) : SW := (wRet (wAndV (wCall 3 (fs_is_tuple_of K) (wcCons (wC (.int 1)) (wcCons (wC (.int 12)) (wcCons (wVar 0) wcNil)))) (wCB gAll (wCons (c1_is_widths K) wNil))))
def isWs : D → Bool | .tup ds => isTupOf 1 12 (.tup ds) && ds.all (isBetw 0 12) | _ => false
def fs_is_widths (K : PySem.W.Frag) : FS := fun cs q _ => ∃ d, cs = [.dat d] ∧ OkD K d ∧ q (.bl (isWs d)) cs
theorem c1_is_widths_ok {ds : List D} {c2 : Cell} {q : D → List Cell → Prop} {e : Xn → List Cell → Prop} (hd : OkD K (.tup ds)) (hn : ds.length ≤ 1000)
    (hq : q (.lst (ds.map fun d => .bl (isBetw 0 12 d))) [.dat (.tup ds), .any]) : c1_is_widths K [.dat (.tup ds), c2] q e := by
  unfold c1_is_widths wLc
  refine ⟨_, rfl, ds, rfl, lc_fm (fun d => .bl (isBetw 0 12 d)) (fun _ => true) hn (fun d hm k1 k2 h1 _ => ?_) (by rw [filter_true]; exact hq)⟩
  simp only [fs_is_width, okTup hd hm, wAsg2, wTold2, wEnumB, wListOfOwn, wRetOwnG, dcOf, wIsiT, offE, D.adr.injEq, Cont.pool.injEq, ixN31, ne_eq, List.map_cons, List.map_nil, wRaise0, wRaise1, wFrz, wEnumT, wDict0, wDict1, numD3, Nat.reduceAdd, atI0, atI1, atI2, atI3, atI4, ixN51, ixN52, ixN53, List.length_map, scal, V.int.injEq, V.str.injEq, V.bl.injEq, wSq, wNext, wBreak, wDrop, wRet, wIfS, wAsg, wPar, wLstOwn, wAppend, wSetOwn, wIxOwn, wPeek, wRetFr, wFor, wB, wNot, wAnd, wOr, wAndV, wOrV, wNotV, wChain, wNil, wCons, wCB, wTup, wLst, wNoPart, wPart, wSlT, wSeq, wRng1, wRng2, wZip, wName, wNilT, wConsT, wTupT, wYes, wNeg, wVar, wC, wOp, wcNil, wcCons, wcOwn, wCall, wCallOwn, slots, cellsOf, OwnArgs, putBack, g2I, g2IC, gLen, gAbs, gGcd, gInt1, gTupleOf, gListOf, gIx, gCatT, gCat, gEq, gNe, gIsN, gNotN, scD, seqD_t, seqD_l, seqD_f, isNonD, List.nodup_cons, List.mem_cons, List.not_mem_nil, or_false, not_false_eq_true, Nat.reduceEqDiff, L3.Keeps, ends, wipeD, List.replicate, List.cons_append, List.nil_append, List.append_nil, List.getElem?_cons_zero, List.getElem?_cons_succ, List.set_cons_zero, List.set_cons_succ, List.getD_cons_zero, List.getD_cons_succ, List.length_cons, List.length_nil, List.nodup_nil, Option.some.injEq, Cell.dat.injEq, Cell.own.injEq, Cont.lst.injEq, D.bl.injEq, D.int.injEq, D.str.injEq, D.tup.injEq, D.lst.injEq, Arg.d.injEq, List.cons.injEq, exists_and_left, exists_and_right, exists_eq_left', exists_eq_left, exists_eq_right, exists_eq_right', exists_eq, exists_eq', and_true, true_and, and_assoc, and_self, exists_const, reduceCtorEq, web_wE, web_pE, webD_inj]
  simp only [true_implies]
  refine ⟨h1 rfl _ rfl, fun z => nomatch z⟩
theorem pure_is_widths : PureD 1 1 (fs_is_widths K) (w_is_widths K) := by
  rintro cs q e - ⟨d, rfl, hd, hq⟩
  cases h : isTupOf 1 12 d with
  | false =>
    have e1 : isWs d = false := by cases d <;> simp_all [isWs]
    rw [e1] at hq
    simp only [w_is_widths, fs_is_tuple_of, h, hd, wAsg2, wTold2, wEnumB, wListOfOwn, wRetOwnG, dcOf, wIsiT, offE, D.adr.injEq, Cont.pool.injEq, ixN31, ne_eq, List.map_cons, List.map_nil, wRaise0, wRaise1, wFrz, wEnumT, wDict0, wDict1, numD3, Nat.reduceAdd, atI0, atI1, atI2, atI3, atI4, ixN51, ixN52, ixN53, List.length_map, scal, V.int.injEq, V.str.injEq, V.bl.injEq, wSq, wNext, wBreak, wDrop, wRet, wIfS, wAsg, wPar, wLstOwn, wAppend, wSetOwn, wIxOwn, wPeek, wRetFr, wFor, wB, wNot, wAnd, wOr, wAndV, wOrV, wNotV, wChain, wNil, wCons, wCB, wTup, wLst, wNoPart, wPart, wSlT, wSeq, wRng1, wRng2, wZip, wName, wNilT, wConsT, wTupT, wYes, wNeg, wVar, wC, wOp, wcNil, wcCons, wcOwn, wCall, wCallOwn, slots, cellsOf, OwnArgs, putBack, g2I, g2IC, gLen, gAbs, gGcd, gInt1, gTupleOf, gListOf, gIx, gCatT, gCat, gEq, gNe, gIsN, gNotN, scD, seqD_t, seqD_l, seqD_f, isNonD, List.nodup_cons, List.mem_cons, List.not_mem_nil, or_false, not_false_eq_true, Nat.reduceEqDiff, L3.Keeps, ends, wipeD, List.replicate, List.cons_append, List.nil_append, List.append_nil, List.getElem?_cons_zero, List.getElem?_cons_succ, List.set_cons_zero, List.set_cons_succ, List.getD_cons_zero, List.getD_cons_succ, List.length_cons, List.length_nil, List.nodup_nil, Option.some.injEq, Cell.dat.injEq, Cell.own.injEq, Cont.lst.injEq, D.bl.injEq, D.int.injEq, D.str.injEq, D.tup.injEq, D.lst.injEq, Arg.d.injEq, List.cons.injEq, exists_and_left, exists_and_right, exists_eq_left', exists_eq_left, exists_eq_right, exists_eq_right', exists_eq, exists_eq', and_true, true_and, and_assoc, and_self, exists_const, reduceCtorEq, web_wE, web_pE, webD_inj]
    simp_all
  | true =>
    cases d <;> simp [isTupOf] at h
    rename_i ds
    have h' : isTupOf 1 12 (.tup ds) = true := by simp [isTupOf]; omega
    simp only [w_is_widths, fs_is_tuple_of, h', hd, wAsg2, wTold2, wEnumB, wListOfOwn, wRetOwnG, dcOf, wIsiT, offE, D.adr.injEq, Cont.pool.injEq, ixN31, ne_eq, List.map_cons, List.map_nil, wRaise0, wRaise1, wFrz, wEnumT, wDict0, wDict1, numD3, Nat.reduceAdd, atI0, atI1, atI2, atI3, atI4, ixN51, ixN52, ixN53, List.length_map, scal, V.int.injEq, V.str.injEq, V.bl.injEq, wSq, wNext, wBreak, wDrop, wRet, wIfS, wAsg, wPar, wLstOwn, wAppend, wSetOwn, wIxOwn, wPeek, wRetFr, wFor, wB, wNot, wAnd, wOr, wAndV, wOrV, wNotV, wChain, wNil, wCons, wCB, wTup, wLst, wNoPart, wPart, wSlT, wSeq, wRng1, wRng2, wZip, wName, wNilT, wConsT, wTupT, wYes, wNeg, wVar, wC, wOp, wcNil, wcCons, wcOwn, wCall, wCallOwn, slots, cellsOf, OwnArgs, putBack, g2I, g2IC, gLen, gAbs, gGcd, gInt1, gTupleOf, gListOf, gIx, gCatT, gCat, gEq, gNe, gIsN, gNotN, scD, seqD_t, seqD_l, seqD_f, isNonD, List.nodup_cons, List.mem_cons, List.not_mem_nil, or_false, not_false_eq_true, Nat.reduceEqDiff, L3.Keeps, ends, wipeD, List.replicate, List.cons_append, List.nil_append, List.append_nil, List.getElem?_cons_zero, List.getElem?_cons_succ, List.set_cons_zero, List.set_cons_succ, List.getD_cons_zero, List.getD_cons_succ, List.length_cons, List.length_nil, List.nodup_nil, Option.some.injEq, Cell.dat.injEq, Cell.own.injEq, Cont.lst.injEq, D.bl.injEq, D.int.injEq, D.str.injEq, D.tup.injEq, D.lst.injEq, Arg.d.injEq, List.cons.injEq, exists_and_left, exists_and_right, exists_eq_left', exists_eq_left, exists_eq_right, exists_eq_right', exists_eq, exists_eq', and_true, true_and, and_assoc, and_self, exists_const, reduceCtorEq, web_wE, web_pE, webD_inj]
    simp only [true_implies, reduceCtorEq, false_implies, and_true]
    refine c1_is_widths_ok hd (by omega) (gAll_map ?_)
    have e1 : isWs (.tup ds) = ds.all (isBetw 0 12) := by simp only [isWs, h', Bool.true_and]
    rw [e1] at hq
    simp only [wAsg2, wTold2, wEnumB, wListOfOwn, wRetOwnG, dcOf, wIsiT, offE, D.adr.injEq, Cont.pool.injEq, ixN31, ne_eq, List.map_cons, List.map_nil, wRaise0, wRaise1, wFrz, wEnumT, wDict0, wDict1, numD3, Nat.reduceAdd, atI0, atI1, atI2, atI3, atI4, ixN51, ixN52, ixN53, List.length_map, scal, V.int.injEq, V.str.injEq, V.bl.injEq, wSq, wNext, wBreak, wDrop, wRet, wIfS, wAsg, wPar, wLstOwn, wAppend, wSetOwn, wIxOwn, wPeek, wRetFr, wFor, wB, wNot, wAnd, wOr, wAndV, wOrV, wNotV, wChain, wNil, wCons, wCB, wTup, wLst, wNoPart, wPart, wSlT, wSeq, wRng1, wRng2, wZip, wName, wNilT, wConsT, wTupT, wYes, wNeg, wVar, wC, wOp, wcNil, wcCons, wcOwn, wCall, wCallOwn, slots, cellsOf, OwnArgs, putBack, g2I, g2IC, gLen, gAbs, gGcd, gInt1, gTupleOf, gListOf, gIx, gCatT, gCat, gEq, gNe, gIsN, gNotN, scD, seqD_t, seqD_l, seqD_f, isNonD, List.nodup_cons, List.mem_cons, List.not_mem_nil, or_false, not_false_eq_true, Nat.reduceEqDiff, L3.Keeps, ends, wipeD, List.replicate, List.cons_append, List.nil_append, List.append_nil, List.getElem?_cons_zero, List.getElem?_cons_succ, List.set_cons_zero, List.set_cons_succ, List.getD_cons_zero, List.getD_cons_succ, List.length_cons, List.length_nil, List.nodup_nil, Option.some.injEq, Cell.dat.injEq, Cell.own.injEq, Cont.lst.injEq, D.bl.injEq, D.int.injEq, D.str.injEq, D.tup.injEq, D.lst.injEq, Arg.d.injEq, List.cons.injEq, exists_and_left, exists_and_right, exists_eq_left', exists_eq_left, exists_eq_right, exists_eq_right', exists_eq, exists_eq', and_true, true_and, and_assoc, and_self, exists_const, reduceCtorEq, web_wE, web_pE, webD_inj]
    exact hq
theorem ok_is_widths (T : Txt K mg) : FnOk P w K mg base (L2.CX P w) 4 T.f_is_widths T.fd_is_widths ["thing"] (spOf K 1 (fs_is_widths K)) := by
  refine def_ok T.F_is_widths sc_is_widths (wb := w_is_widths K) pure_is_widths ?_
  intro cdv A outer s H E hr tk
  exact ⟨_, (pss_one (ps_ret (pe_and (pe_callS (ok_is_tuple_of T) (hr.mono (by decide)) rfl T.g_is_tuple_of T.k_is_tuple_of T.b_is_tuple_of (fun σ => passAt tk σ) (pa_cons pe_int (pa_cons (pe_glob (v := .int 12) rfl T.c_MOST_VESSELS ⟨_, rfl⟩) (pa_cons (pv 0) pa_nil)))) (pe_one (pe_callB (cr_all (by rfl)) (by rfl) T.z_all (by decide +kernel) (pa_cons (pe_lc (own := [("width", 1)]) (g := (gName 1)) (tt := tYes) (te := (tCallS (spOf K 1 (fs_is_width K)) (L2.WE W0) (tCons (tVar 1) tNil))) rfl sc_is_widths.nd (pi_seq (pv 0)) (blkOk_by (N := ["thing", "width"]) (sc := defScope s_is_widths) (by decide +kernel)) (fun _ _ _ _ _ => (pg_name (i := 1) sc_is_widths.nd rfl (by first | exact Or.inl rfl | exact Or.inr rfl))) (fun _ _ _ _ _ => pts_nil) (fun _ _ _ _ _ => (pe_callS (ok_is_width T) (hr.mono (by decide)) rfl T.g_is_width T.k_is_width T.b_is_width (fun σ => passAt L2.takes0 σ) (pa_cons (pv 1) pa_nil)))) pa_nil)))))),
    (ds_ret (de_and (de_call (n := 3) (fs := fs_is_tuple_of K) (dac_cons de_int (dac_cons de_int (dac_cons (de_var 0) dac_nil)))) (de_cb o_all (da_cons (de_lc (vs := [1]) (wI := (wSeq (wVar 0))) (wg := (wName 1)) (wt := wYes) (we := (wCall 1 (fs_is_width K) (wcCons (wVar 1) wcNil))) (di_seq (de_var 0)) (dg_name 1) dt_yes (de_call (n := 1) (fs := fs_is_width K) (dac_cons (de_var 1) dac_nil)) (by decide)) da_nil))))⟩
abbrev s_is_pipe : Stmt := topS 24
theorem sc_is_pipe : FnScope ["vessels", "thing", "one", "other", "thresholds"] ["vessels", "thing"] (defScope s_is_pipe) := ⟨rfl, rfl, rfl, by decide +kernel, rfl, by decide +kernel, by decide +kernel⟩
def w_is_pipe (K : PySem.W.Frag) : SW := (wSq (wIfS (wNot (wB (wCall 3 (fs_is_tuple_of K) (wcCons (wC (.int 3)) (wcCons (wC (.int 3)) (wcCons (wVar 1) wcNil)))))) (wRet (wC (.bl false))) wNext)
  (wSq (wAsg (wVar 1) (wTupT 3 (wConsT (wName 2) (wConsT (wName 3) (wConsT (wName 4) wNilT)))))
  (wRet (wAndV (wCall 3 (fs_is_between K) (wcCons (wC (.int 0)) (wcCons (wOp gSubI (wVar 0) (wC (.int 1))) (wcCons (wVar 3) wcNil)))) (wAndV (wCall 3 (fs_is_between K) (wcCons (wC (.int 0)) (wcCons (wOp gSubI (wVar 3) (wC (.int 1))) (wcCons (wVar 2) wcNil)))) (wCall 1 (fs_is_list K) (wcCons (wVar 4) wcNil)))))))
def isPi (v : Int) : D → Bool | .tup [a, .int b, l] => isBetw 0 (v - 1) (.int b) && isBetw 0 (b - 1) a && isLi l | _ => false
def fs_is_pipe (K : PySem.W.Frag) : FS := fun cs q _ => ∃ (v : Int) (d : D), cs = [.dat (.int v), .dat d] ∧ OkD K d ∧ q (.bl (isPi v d)) cs
theorem tup_three {d : D} (h : isTupOf 3 3 d = true) : ∃ x y z, d = .tup [x, y, z] := by
  cases d <;> simp [isTupOf] at h
  rename_i ds
  match ds, h with
  | [], h => simp at h
  | [x], h => simp at h
  | [x, y], h => simp at h
  | [x, y, z], _ => exact ⟨x, y, z, rfl⟩
  | x :: y :: z :: u :: r, h => simp at h; omega
theorem pi_not_three {v : Int} {d : D} (h : isTupOf 3 3 d = false) : isPi v d = false := by
  cases d with
  | tup ds =>
    match ds with
    | [] => rfl
    | [x] => cases x <;> rfl
    | [x, y] => cases x <;> cases y <;> rfl
    | [x, y, z] => simp [isTupOf] at h
    | x :: y :: z :: u :: r => cases x <;> cases y <;> rfl
  | _ => rfl
theorem pure_is_pipe : PureD 2 3 (fs_is_pipe K) (w_is_pipe K) := by
  rintro cs q e - ⟨v, d, rfl, hd, hq⟩
  cases h : isTupOf 3 3 d with
  | false =>
    rw [pi_not_three h] at hq
    simp only [w_is_pipe, fs_is_tuple_of, h, hd, wAsg2, wTold2, wEnumB, wListOfOwn, wRetOwnG, dcOf, wIsiT, offE, D.adr.injEq, Cont.pool.injEq, ixN31, ne_eq, List.map_cons, List.map_nil, wRaise0, wRaise1, wFrz, wEnumT, wDict0, wDict1, numD3, Nat.reduceAdd, atI0, atI1, atI2, atI3, atI4, ixN51, ixN52, ixN53, List.length_map, scal, V.int.injEq, V.str.injEq, V.bl.injEq, wSq, wNext, wBreak, wDrop, wRet, wIfS, wAsg, wPar, wLstOwn, wAppend, wSetOwn, wIxOwn, wPeek, wRetFr, wFor, wB, wNot, wAnd, wOr, wAndV, wOrV, wNotV, wChain, wNil, wCons, wCB, wTup, wLst, wNoPart, wPart, wSlT, wSeq, wRng1, wRng2, wZip, wName, wNilT, wConsT, wTupT, wYes, wNeg, wVar, wC, wOp, wcNil, wcCons, wcOwn, wCall, wCallOwn, slots, cellsOf, OwnArgs, putBack, g2I, g2IC, gLen, gAbs, gGcd, gInt1, gTupleOf, gListOf, gIx, gCatT, gCat, gEq, gNe, gIsN, gNotN, scD, seqD_t, seqD_l, seqD_f, isNonD, List.nodup_cons, List.mem_cons, List.not_mem_nil, or_false, not_false_eq_true, Nat.reduceEqDiff, L3.Keeps, ends, wipeD, List.replicate, List.cons_append, List.nil_append, List.append_nil, List.getElem?_cons_zero, List.getElem?_cons_succ, List.set_cons_zero, List.set_cons_succ, List.getD_cons_zero, List.getD_cons_succ, List.length_cons, List.length_nil, List.nodup_nil, Option.some.injEq, Cell.dat.injEq, Cell.own.injEq, Cont.lst.injEq, D.bl.injEq, D.int.injEq, D.str.injEq, D.tup.injEq, D.lst.injEq, Arg.d.injEq, List.cons.injEq, exists_and_left, exists_and_right, exists_eq_left', exists_eq_left, exists_eq_right, exists_eq_right', exists_eq, exists_eq', and_true, true_and, and_assoc, and_self, exists_const, reduceCtorEq, web_wE, web_pE, webD_inj]
    simpa using hq
  | true =>
    obtain ⟨a, b, l, rfl⟩ := tup_three h
    have ha := okTup hd (d := a) (by simp)
    have hb := okTup hd (d := b) (by simp)
    have hl := okTup hd (d := l) (by simp)
    simp only [w_is_pipe, fs_is_tuple_of, fs_is_between, fs_is_list, h, hd, ha, hb, hl, wAsg2, wTold2, wEnumB, wListOfOwn, wRetOwnG, dcOf, wIsiT, offE, D.adr.injEq, Cont.pool.injEq, ixN31, ne_eq, List.map_cons, List.map_nil, wRaise0, wRaise1, wFrz, wEnumT, wDict0, wDict1, numD3, Nat.reduceAdd, atI0, atI1, atI2, atI3, atI4, ixN51, ixN52, ixN53, List.length_map, scal, V.int.injEq, V.str.injEq, V.bl.injEq, wSq, wNext, wBreak, wDrop, wRet, wIfS, wAsg, wPar, wLstOwn, wAppend, wSetOwn, wIxOwn, wPeek, wRetFr, wFor, wB, wNot, wAnd, wOr, wAndV, wOrV, wNotV, wChain, wNil, wCons, wCB, wTup, wLst, wNoPart, wPart, wSlT, wSeq, wRng1, wRng2, wZip, wName, wNilT, wConsT, wTupT, wYes, wNeg, wVar, wC, wOp, wcNil, wcCons, wcOwn, wCall, wCallOwn, slots, cellsOf, OwnArgs, putBack, g2I, g2IC, gLen, gAbs, gGcd, gInt1, gTupleOf, gListOf, gIx, gCatT, gCat, gEq, gNe, gIsN, gNotN, scD, seqD_t, seqD_l, seqD_f, isNonD, List.nodup_cons, List.mem_cons, List.not_mem_nil, or_false, not_false_eq_true, Nat.reduceEqDiff, L3.Keeps, ends, wipeD, List.replicate, List.cons_append, List.nil_append, List.append_nil, List.getElem?_cons_zero, List.getElem?_cons_succ, List.set_cons_zero, List.set_cons_succ, List.getD_cons_zero, List.getD_cons_succ, List.length_cons, List.length_nil, List.nodup_nil, Option.some.injEq, Cell.dat.injEq, Cell.own.injEq, Cont.lst.injEq, D.bl.injEq, D.int.injEq, D.str.injEq, D.tup.injEq, D.lst.injEq, Arg.d.injEq, List.cons.injEq, exists_and_left, exists_and_right, exists_eq_left', exists_eq_left, exists_eq_right, exists_eq_right', exists_eq, exists_eq', and_true, true_and, and_assoc, and_self, exists_const, reduceCtorEq, web_wE, web_pE, webD_inj]
    simp only [Bool.not_true, Bool.false_eq_true, false_implies, true_implies, true_and]
    cases e1 : isBetw 0 (v - 1) b with
    | false =>
      have e2 : isPi v (.tup [a, b, l]) = false := by
        cases b <;> simp [isPi]
        intro z
        rw [e1] at z; cases z
      rw [e2] at hq
      simpa using hq
    | true =>
      obtain ⟨i, rfl, _, _⟩ := betw_int e1
      have e2 : isPi v (.tup [a, .int i, l]) = (isBetw 0 (i - 1) a && isLi l) := by simp only [isPi, e1, Bool.true_and]
      rw [e2] at hq
      simp only [D.int.injEq, exists_eq_left', true_implies, reduceCtorEq, false_implies, and_true]
      cases e3 : isBetw 0 (i - 1) a with
      | false => rw [e3] at hq; simpa using hq
      | true => rw [e3] at hq; simpa using hq
theorem ok_is_pipe (T : Txt K mg) : FnOk P w K mg base (L2.CX P w) 5 T.f_is_pipe T.fd_is_pipe ["vessels", "thing"] (spOf K 2 (fs_is_pipe K)) := by
  refine def_ok T.F_is_pipe sc_is_pipe (wb := w_is_pipe K) pure_is_pipe ?_
  intro cdv A outer s H E hr tk
  exact ⟨_, (pss_cons (ps_if (pt_not (pt_val (pe_callS (ok_is_tuple_of T) (hr.mono (by decide)) rfl T.g_is_tuple_of T.k_is_tuple_of T.b_is_tuple_of (fun σ => passAt tk σ) (pa_cons pe_int (pa_cons pe_int (pa_cons (pv 1) pa_nil))))))
        (pss_one (ps_ret pe_bl))
        pss_nil)
      (pss_cons (ps_asg (pv 1) (pg_tup (by rfl) (pgs_cons (pg_name (i := 2) sc_is_pipe.nd rfl (by first | exact Or.inl rfl | exact Or.inr rfl)) (pgs_cons (pg_name (i := 3) sc_is_pipe.nd rfl (by first | exact Or.inl rfl | exact Or.inr rfl)) (pgs_cons (pg_name (i := 4) sc_is_pipe.nd rfl (by first | exact Or.inl rfl | exact Or.inr rfl)) pgs_nil)))))
      (pss_one (ps_ret (pe_and (pe_callS (ok_is_between T) (hr.mono (by decide)) rfl T.g_is_between T.k_is_between T.b_is_between (fun σ => passAt tk σ) (pa_cons pe_int (pa_cons (pe_op op_sub (pv 0) pe_int) (pa_cons (pv 3) pa_nil)))) (pe_and (pe_callS (ok_is_between T) (hr.mono (by decide)) rfl T.g_is_between T.k_is_between T.b_is_between (fun σ => passAt tk σ) (pa_cons pe_int (pa_cons (pe_op op_sub (pv 3) pe_int) (pa_cons (pv 2) pa_nil)))) (pe_one (pe_callS (ok_is_list T) (hr.mono (by decide)) rfl T.g_is_list T.k_is_list T.b_is_list (fun σ => passAt tk σ) (pa_cons (pv 4) pa_nil))))))))),
    (ds_seq (ds_if (dt_not (dt_B (de_call (n := 3) (fs := fs_is_tuple_of K) (dac_cons de_int (dac_cons de_int (dac_cons (de_var 1) dac_nil)))))) (ds_ret de_bl) ds_nil)
      (ds_seq (ds_asg (de_var 1) (dg_tup (n := 3) (dgs_cons (dg_name 2) (dgs_cons (dg_name 3) (dgs_cons (dg_name 4) dgs_nil)))))
      (ds_ret (de_and (de_call (n := 3) (fs := fs_is_between K) (dac_cons de_int (dac_cons (de_op o_sub (de_var 0) de_int) (dac_cons (de_var 3) dac_nil)))) (de_and (de_call (n := 3) (fs := fs_is_between K) (dac_cons de_int (dac_cons (de_op o_sub (de_var 3) de_int) (dac_cons (de_var 2) dac_nil)))) (de_call (n := 1) (fs := fs_is_list K) (dac_cons (de_var 4) dac_nil)))))))⟩
abbrev s_Web__init__ : Stmt := inClass (topS 25) 0
theorem sc_Web__init__ : FnScope ["self", "widths", "pipes", "number", "pipe"] ["self", "widths", "pipes"] (defScope s_Web__init__) := ⟨rfl, rfl, rfl, by decide +kernel, rfl, by decide +kernel, by decide +kernel⟩
def l1_Web__init__ (K : PySem.W.Frag) (Z : CT) : SW := wFor (wEnumT (wCons (wVar 2) wNil)) (wTupT 2 (wConsT (wName 3) (wConsT (wName 4) wNilT))) (wIfS (wNot (wB (wCall 2 (fs_is_pipe K) (wcCons (wCB gLen (wCons (wVar 1) wNil)) (wcCons (wVar 4) wcNil))))) (wRaise1 Z.C_BadWeb "part" (wVar 3)) wNext)
def w_Web__init__ (K : PySem.W.Frag) (Z : CT) : SW := (wSq (wIfS (wNot (wB (wCall 1 (fs_is_widths K) (wcCons (wVar 1) wcNil)))) (wRaise1 Z.C_BadWeb "part" (wC (.str "widths"))) wNext)
  (wSq (wIfS (wNot (wB (wCall 3 (fs_is_tuple_of K) (wcCons (wC (.int 0)) (wcCons (wC (.int 36)) (wcCons (wVar 2) wcNil)))))) (wRaise1 Z.C_BadWeb "part" (wC (.str "pipes"))) wNext)
  (wSq (l1_Web__init__ K Z)
  (wSq (wFld Z.C_Web 0 "widths" (wVar 1))
  (wFld Z.C_Web 0 "pipes" (wVar 2))))))
def firstBad (n : Int) : Nat → List D → Option Nat
  | _, [] => none
  | k, d :: r => if isPi n d = true then firstBad n (k + 1) r else some k
def badWeb (ws ps : D) : Option D :=
  if isWs ws = false then some (.str "widths") else if isTupOf 0 36 ps = false then some (.str "pipes") else
  match ws, ps with
  | .tup us, .tup ds => (firstBad us.length 0 ds).map fun i => .int (i : Nat)
  | _, _ => none
def fs_Web__init__ (K : PySem.W.Frag) (Z : CT) : FS := fun cs q e => ∃ x dx ws ps, cs = [.own x (.obj Z.C_Web dx []), .dat ws, .dat ps] ∧ OkD K ws ∧ OkD K ps ∧
  (∀ part, badWeb ws ps = some part → e ⟨Z.C_BadWeb, [("part", part)]⟩ cs) ∧ (badWeb ws ps = none → q .non [.own x (.obj Z.C_Web dx [("widths", ws), ("pipes", ps)]), .dat ws, .dat ps])
theorem l1_Web__init___ok {Z : CT} {c0 c3 c4 : Cell} {us ds : List D} {E : EndsD} (hd : OkD K (.tup ds)) (hb : ∀ i, firstBad us.length 0 ds = some i → ∀ c3 c4, E.ex ⟨Z.C_BadWeb, [("part", .int (i : Nat))]⟩ [c0, .dat (.tup us), .dat (.tup ds), c3, c4]) (hn : firstBad us.length 0 ds = none → ∀ c3 c4, E.nx [c0, .dat (.tup us), .dat (.tup ds), c3, c4]) : l1_Web__init__ K Z E [c0, .dat (.tup us), .dat (.tup ds), c3, c4] := by
  unfold l1_Web__init__ wFor
  refine ⟨_, rfl, ds, rfl, fun i τ => (∃ c3 c4, τ = [c0, .dat (.tup us), .dat (.tup ds), c3, c4]) ∧ firstBad us.length 0 ds = firstBad us.length i (ds.drop i), ⟨⟨_, _, rfl⟩, rfl⟩, ?_, ?_⟩
  · rintro i d τ2 hi ⟨⟨c3, c4, rfl⟩, hf⟩
    have hlt : i < ds.length := by
      have := (List.getElem?_eq_some_iff.mp hi).1
      rwa [List.length_mapIdx] at this
    rw [List.getElem?_mapIdx, List.getElem?_eq_getElem hlt] at hi
    cases hi
    have ok : OkD K ds[i] := okTup hd (List.getElem_mem hlt)
    rw [List.drop_eq_getElem_cons hlt, firstBad] at hf
    cases h : isPi us.length ds[i] with
    | false =>
      rw [h] at hf
      simp only [fs_is_pipe, wRaise1, seqD_t, ok, h, wAsg2, wTold2, wEnumB, wListOfOwn, wRetOwnG, dcOf, wIsiT, offE, D.adr.injEq, Cont.pool.injEq, ixN31, ne_eq, List.map_cons, List.map_nil, wRaise0, wRaise1, wFrz, wEnumT, wDict0, wDict1, numD3, Nat.reduceAdd, atI0, atI1, atI2, atI3, atI4, ixN51, ixN52, ixN53, List.length_map, scal, V.int.injEq, V.str.injEq, V.bl.injEq, wSq, wNext, wBreak, wDrop, wRet, wIfS, wAsg, wPar, wLstOwn, wAppend, wSetOwn, wIxOwn, wPeek, wRetFr, wFor, wB, wNot, wAnd, wOr, wAndV, wOrV, wNotV, wChain, wNil, wCons, wCB, wTup, wLst, wNoPart, wPart, wSlT, wSeq, wRng1, wRng2, wZip, wName, wNilT, wConsT, wTupT, wYes, wNeg, wVar, wC, wOp, wcNil, wcCons, wcOwn, wCall, wCallOwn, slots, cellsOf, OwnArgs, putBack, g2I, g2IC, gLen, gAbs, gGcd, gInt1, gTupleOf, gListOf, gIx, gCatT, gCat, gEq, gNe, gIsN, gNotN, scD, seqD_t, seqD_l, seqD_f, isNonD, List.nodup_cons, List.mem_cons, List.not_mem_nil, or_false, not_false_eq_true, Nat.reduceEqDiff, L3.Keeps, ends, wipeD, List.replicate, List.cons_append, List.nil_append, List.append_nil, List.getElem?_cons_zero, List.getElem?_cons_succ, List.set_cons_zero, List.set_cons_succ, List.getD_cons_zero, List.getD_cons_succ, List.length_cons, List.length_nil, List.nodup_nil, Option.some.injEq, Cell.dat.injEq, Cell.own.injEq, Cont.lst.injEq, D.bl.injEq, D.int.injEq, D.str.injEq, D.tup.injEq, D.lst.injEq, Arg.d.injEq, List.cons.injEq, exists_and_left, exists_and_right, exists_eq_left', exists_eq_left, exists_eq_right, exists_eq_right', exists_eq, exists_eq', and_true, true_and, and_assoc, and_self, exists_const, reduceCtorEq, web_wE, web_pE, webD_inj]
      simp
      exact hb i hf _ _
    | true =>
      rw [h] at hf
      simp only [fs_is_pipe, wRaise1, seqD_t, ok, h, wAsg2, wTold2, wEnumB, wListOfOwn, wRetOwnG, dcOf, wIsiT, offE, D.adr.injEq, Cont.pool.injEq, ixN31, ne_eq, List.map_cons, List.map_nil, wRaise0, wRaise1, wFrz, wEnumT, wDict0, wDict1, numD3, Nat.reduceAdd, atI0, atI1, atI2, atI3, atI4, ixN51, ixN52, ixN53, List.length_map, scal, V.int.injEq, V.str.injEq, V.bl.injEq, wSq, wNext, wBreak, wDrop, wRet, wIfS, wAsg, wPar, wLstOwn, wAppend, wSetOwn, wIxOwn, wPeek, wRetFr, wFor, wB, wNot, wAnd, wOr, wAndV, wOrV, wNotV, wChain, wNil, wCons, wCB, wTup, wLst, wNoPart, wPart, wSlT, wSeq, wRng1, wRng2, wZip, wName, wNilT, wConsT, wTupT, wYes, wNeg, wVar, wC, wOp, wcNil, wcCons, wcOwn, wCall, wCallOwn, slots, cellsOf, OwnArgs, putBack, g2I, g2IC, gLen, gAbs, gGcd, gInt1, gTupleOf, gListOf, gIx, gCatT, gCat, gEq, gNe, gIsN, gNotN, scD, seqD_t, seqD_l, seqD_f, isNonD, List.nodup_cons, List.mem_cons, List.not_mem_nil, or_false, not_false_eq_true, Nat.reduceEqDiff, L3.Keeps, ends, wipeD, List.replicate, List.cons_append, List.nil_append, List.append_nil, List.getElem?_cons_zero, List.getElem?_cons_succ, List.set_cons_zero, List.set_cons_succ, List.getD_cons_zero, List.getD_cons_succ, List.length_cons, List.length_nil, List.nodup_nil, Option.some.injEq, Cell.dat.injEq, Cell.own.injEq, Cont.lst.injEq, D.bl.injEq, D.int.injEq, D.str.injEq, D.tup.injEq, D.lst.injEq, Arg.d.injEq, List.cons.injEq, exists_and_left, exists_and_right, exists_eq_left', exists_eq_left, exists_eq_right, exists_eq_right', exists_eq, exists_eq', and_true, true_and, and_assoc, and_self, exists_const, reduceCtorEq, web_wE, web_pE, webD_inj]
      simp
      exact hf
  · rintro τ2 ⟨⟨c3, c4, rfl⟩, hf⟩
    rw [List.length_mapIdx, List.drop_length] at hf
    exact hn hf _ _
theorem pure_Web__init__ {Z : CT} : PureD 3 2 (fs_Web__init__ K Z) (w_Web__init__ K Z) := by
  rintro cs q e - ⟨x, dx, ws, ps, rfl, h1, h2, hb, hn⟩
  cases g1 : isWs ws with
  | false =>
    simp only [badWeb, g1, if_true] at hb
    simp only [w_Web__init__, fs_is_widths, wRaise1, h1, g1, wAsg2, wTold2, wEnumB, wListOfOwn, wRetOwnG, dcOf, wIsiT, offE, D.adr.injEq, Cont.pool.injEq, ixN31, ne_eq, List.map_cons, List.map_nil, wRaise0, wRaise1, wFrz, wEnumT, wDict0, wDict1, numD3, Nat.reduceAdd, atI0, atI1, atI2, atI3, atI4, ixN51, ixN52, ixN53, List.length_map, scal, V.int.injEq, V.str.injEq, V.bl.injEq, wSq, wNext, wBreak, wDrop, wRet, wIfS, wAsg, wPar, wLstOwn, wAppend, wSetOwn, wIxOwn, wPeek, wRetFr, wFor, wB, wNot, wAnd, wOr, wAndV, wOrV, wNotV, wChain, wNil, wCons, wCB, wTup, wLst, wNoPart, wPart, wSlT, wSeq, wRng1, wRng2, wZip, wName, wNilT, wConsT, wTupT, wYes, wNeg, wVar, wC, wOp, wcNil, wcCons, wcOwn, wCall, wCallOwn, slots, cellsOf, OwnArgs, putBack, g2I, g2IC, gLen, gAbs, gGcd, gInt1, gTupleOf, gListOf, gIx, gCatT, gCat, gEq, gNe, gIsN, gNotN, scD, seqD_t, seqD_l, seqD_f, isNonD, List.nodup_cons, List.mem_cons, List.not_mem_nil, or_false, not_false_eq_true, Nat.reduceEqDiff, L3.Keeps, ends, wipeD, List.replicate, List.cons_append, List.nil_append, List.append_nil, List.getElem?_cons_zero, List.getElem?_cons_succ, List.set_cons_zero, List.set_cons_succ, List.getD_cons_zero, List.getD_cons_succ, List.length_cons, List.length_nil, List.nodup_nil, Option.some.injEq, Cell.dat.injEq, Cell.own.injEq, Cont.lst.injEq, D.bl.injEq, D.int.injEq, D.str.injEq, D.tup.injEq, D.lst.injEq, Arg.d.injEq, List.cons.injEq, exists_and_left, exists_and_right, exists_eq_left', exists_eq_left, exists_eq_right, exists_eq_right', exists_eq, exists_eq', and_true, true_and, and_assoc, and_self, exists_const, reduceCtorEq, web_wE, web_pE, webD_inj]
    simp
    exact hb _ rfl
  | true =>
    cases g2 : isTupOf 0 36 ps with
    | false =>
      simp only [badWeb, g1, g2, if_true, Bool.true_eq_false, if_false] at hb
      simp only [w_Web__init__, fs_is_widths, fs_is_tuple_of, wRaise1, h1, h2, g1, g2, wAsg2, wTold2, wEnumB, wListOfOwn, wRetOwnG, dcOf, wIsiT, offE, D.adr.injEq, Cont.pool.injEq, ixN31, ne_eq, List.map_cons, List.map_nil, wRaise0, wRaise1, wFrz, wEnumT, wDict0, wDict1, numD3, Nat.reduceAdd, atI0, atI1, atI2, atI3, atI4, ixN51, ixN52, ixN53, List.length_map, scal, V.int.injEq, V.str.injEq, V.bl.injEq, wSq, wNext, wBreak, wDrop, wRet, wIfS, wAsg, wPar, wLstOwn, wAppend, wSetOwn, wIxOwn, wPeek, wRetFr, wFor, wB, wNot, wAnd, wOr, wAndV, wOrV, wNotV, wChain, wNil, wCons, wCB, wTup, wLst, wNoPart, wPart, wSlT, wSeq, wRng1, wRng2, wZip, wName, wNilT, wConsT, wTupT, wYes, wNeg, wVar, wC, wOp, wcNil, wcCons, wcOwn, wCall, wCallOwn, slots, cellsOf, OwnArgs, putBack, g2I, g2IC, gLen, gAbs, gGcd, gInt1, gTupleOf, gListOf, gIx, gCatT, gCat, gEq, gNe, gIsN, gNotN, scD, seqD_t, seqD_l, seqD_f, isNonD, List.nodup_cons, List.mem_cons, List.not_mem_nil, or_false, not_false_eq_true, Nat.reduceEqDiff, L3.Keeps, ends, wipeD, List.replicate, List.cons_append, List.nil_append, List.append_nil, List.getElem?_cons_zero, List.getElem?_cons_succ, List.set_cons_zero, List.set_cons_succ, List.getD_cons_zero, List.getD_cons_succ, List.length_cons, List.length_nil, List.nodup_nil, Option.some.injEq, Cell.dat.injEq, Cell.own.injEq, Cont.lst.injEq, D.bl.injEq, D.int.injEq, D.str.injEq, D.tup.injEq, D.lst.injEq, Arg.d.injEq, List.cons.injEq, exists_and_left, exists_and_right, exists_eq_left', exists_eq_left, exists_eq_right, exists_eq_right', exists_eq, exists_eq', and_true, true_and, and_assoc, and_self, exists_const, reduceCtorEq, web_wE, web_pE, webD_inj]
      simp
      exact hb _ rfl
    | true =>
      obtain ⟨us, rfl⟩ : ∃ us, ws = .tup us := by cases ws <;> first | exact ⟨_, rfl⟩ | cases g1
      obtain ⟨ds, rfl⟩ : ∃ us, ps = .tup us := by cases ps <;> first | exact ⟨_, rfl⟩ | cases g2
      simp only [badWeb, g1, g2, Bool.true_eq_false, if_false, Option.map_eq_some_iff, Option.map_eq_none_iff] at hb hn
      simp only [w_Web__init__, fs_is_widths, fs_is_tuple_of, wRaise1, h1, h2, g1, g2, wAsg2, wTold2, wEnumB, wListOfOwn, wRetOwnG, dcOf, wIsiT, offE, D.adr.injEq, Cont.pool.injEq, ixN31, ne_eq, List.map_cons, List.map_nil, wRaise0, wRaise1, wFrz, wEnumT, wDict0, wDict1, numD3, Nat.reduceAdd, atI0, atI1, atI2, atI3, atI4, ixN51, ixN52, ixN53, List.length_map, scal, V.int.injEq, V.str.injEq, V.bl.injEq, wSq, wNext, wBreak, wDrop, wRet, wIfS, wAsg, wPar, wLstOwn, wAppend, wSetOwn, wIxOwn, wPeek, wRetFr, wFor, wB, wNot, wAnd, wOr, wAndV, wOrV, wNotV, wChain, wNil, wCons, wCB, wTup, wLst, wNoPart, wPart, wSlT, wSeq, wRng1, wRng2, wZip, wName, wNilT, wConsT, wTupT, wYes, wNeg, wVar, wC, wOp, wcNil, wcCons, wcOwn, wCall, wCallOwn, slots, cellsOf, OwnArgs, putBack, g2I, g2IC, gLen, gAbs, gGcd, gInt1, gTupleOf, gListOf, gIx, gCatT, gCat, gEq, gNe, gIsN, gNotN, scD, seqD_t, seqD_l, seqD_f, isNonD, List.nodup_cons, List.mem_cons, List.not_mem_nil, or_false, not_false_eq_true, Nat.reduceEqDiff, L3.Keeps, ends, wipeD, List.replicate, List.cons_append, List.nil_append, List.append_nil, List.getElem?_cons_zero, List.getElem?_cons_succ, List.set_cons_zero, List.set_cons_succ, List.getD_cons_zero, List.getD_cons_succ, List.length_cons, List.length_nil, List.nodup_nil, Option.some.injEq, Cell.dat.injEq, Cell.own.injEq, Cont.lst.injEq, D.bl.injEq, D.int.injEq, D.str.injEq, D.tup.injEq, D.lst.injEq, Arg.d.injEq, List.cons.injEq, exists_and_left, exists_and_right, exists_eq_left', exists_eq_left, exists_eq_right, exists_eq_right', exists_eq, exists_eq', and_true, true_and, and_assoc, and_self, exists_const, reduceCtorEq, web_wE, web_pE, webD_inj]
      simp
      refine l1_Web__init___ok h2 (fun i hi c3 c4 => ?_) fun h c3 c4 => ?_
      · simp only [wAsg2, wTold2, wEnumB, wListOfOwn, wRetOwnG, dcOf, wIsiT, offE, D.adr.injEq, Cont.pool.injEq, ixN31, ne_eq, List.map_cons, List.map_nil, wRaise0, wRaise1, wFrz, wEnumT, wDict0, wDict1, numD3, Nat.reduceAdd, atI0, atI1, atI2, atI3, atI4, ixN51, ixN52, ixN53, List.length_map, scal, V.int.injEq, V.str.injEq, V.bl.injEq, wSq, wNext, wBreak, wDrop, wRet, wIfS, wAsg, wPar, wLstOwn, wAppend, wSetOwn, wIxOwn, wPeek, wRetFr, wFor, wB, wNot, wAnd, wOr, wAndV, wOrV, wNotV, wChain, wNil, wCons, wCB, wTup, wLst, wNoPart, wPart, wSlT, wSeq, wRng1, wRng2, wZip, wName, wNilT, wConsT, wTupT, wYes, wNeg, wVar, wC, wOp, wcNil, wcCons, wcOwn, wCall, wCallOwn, slots, cellsOf, OwnArgs, putBack, g2I, g2IC, gLen, gAbs, gGcd, gInt1, gTupleOf, gListOf, gIx, gCatT, gCat, gEq, gNe, gIsN, gNotN, scD, seqD_t, seqD_l, seqD_f, isNonD, List.nodup_cons, List.mem_cons, List.not_mem_nil, or_false, not_false_eq_true, Nat.reduceEqDiff, L3.Keeps, ends, wipeD, List.replicate, List.cons_append, List.nil_append, List.append_nil, List.getElem?_cons_zero, List.getElem?_cons_succ, List.set_cons_zero, List.set_cons_succ, List.getD_cons_zero, List.getD_cons_succ, List.length_cons, List.length_nil, List.nodup_nil, Option.some.injEq, Cell.dat.injEq, Cell.own.injEq, Cont.lst.injEq, D.bl.injEq, D.int.injEq, D.str.injEq, D.tup.injEq, D.lst.injEq, Arg.d.injEq, List.cons.injEq, exists_and_left, exists_and_right, exists_eq_left', exists_eq_left, exists_eq_right, exists_eq_right', exists_eq, exists_eq', and_true, true_and, and_assoc, and_self, exists_const, reduceCtorEq, web_wE, web_pE, webD_inj]
        exact hb _ ⟨i, hi, rfl⟩
      · have e : putD (Str.ofString "pipes") (D.tup ds) [(Str.ofString "widths", D.tup us)] = [(Str.ofString "widths", D.tup us), (Str.ofString "pipes", D.tup ds)] := by
          unfold putD
          rw [if_neg (by decide +kernel)]
          rfl
        simp only [wFld, wAsg2, wTold2, wEnumB, wListOfOwn, wRetOwnG, dcOf, wIsiT, offE, D.adr.injEq, Cont.pool.injEq, ixN31, ne_eq, List.map_cons, List.map_nil, wRaise0, wRaise1, wFrz, wEnumT, wDict0, wDict1, numD3, Nat.reduceAdd, atI0, atI1, atI2, atI3, atI4, ixN51, ixN52, ixN53, List.length_map, scal, V.int.injEq, V.str.injEq, V.bl.injEq, wSq, wNext, wBreak, wDrop, wRet, wIfS, wAsg, wPar, wLstOwn, wAppend, wSetOwn, wIxOwn, wPeek, wRetFr, wFor, wB, wNot, wAnd, wOr, wAndV, wOrV, wNotV, wChain, wNil, wCons, wCB, wTup, wLst, wNoPart, wPart, wSlT, wSeq, wRng1, wRng2, wZip, wName, wNilT, wConsT, wTupT, wYes, wNeg, wVar, wC, wOp, wcNil, wcCons, wcOwn, wCall, wCallOwn, slots, cellsOf, OwnArgs, putBack, g2I, g2IC, gLen, gAbs, gGcd, gInt1, gTupleOf, gListOf, gIx, gCatT, gCat, gEq, gNe, gIsN, gNotN, scD, seqD_t, seqD_l, seqD_f, isNonD, List.nodup_cons, List.mem_cons, List.not_mem_nil, or_false, not_false_eq_true, Nat.reduceEqDiff, L3.Keeps, ends, wipeD, List.replicate, List.cons_append, List.nil_append, List.append_nil, List.getElem?_cons_zero, List.getElem?_cons_succ, List.set_cons_zero, List.set_cons_succ, List.getD_cons_zero, List.getD_cons_succ, List.length_cons, List.length_nil, List.nodup_nil, Option.some.injEq, Cell.dat.injEq, Cell.own.injEq, Cont.lst.injEq, D.bl.injEq, D.int.injEq, D.str.injEq, D.tup.injEq, D.lst.injEq, Arg.d.injEq, List.cons.injEq, exists_and_left, exists_and_right, exists_eq_left', exists_eq_left, exists_eq_right, exists_eq_right', exists_eq, exists_eq', and_true, true_and, and_assoc, and_self, exists_const, reduceCtorEq, web_wE, web_pE, webD_inj]
        simp
        exact ⟨dx, [], ⟨rfl, rfl⟩, (show (0 : Nat) < 1000 by decide), dx, [(Str.ofString "widths", D.tup us)], ⟨rfl, rfl⟩, (show (1 : Nat) < 1000 by decide), by rw [e]; exact hn h⟩
theorem ok_Web__init__ (T : Txt K mg) : FnOk P w K mg base (L2.CX P w) 6 T.f_Web__init__ T.fd_Web__init__ ["self", "widths", "pipes"] (spOf K 3 (fs_Web__init__ K T.Z)) := by
  refine def_ok T.F_Web__init__ sc_Web__init__ (wb := w_Web__init__ K T.Z) pure_Web__init__ ?_
  intro cdv A outer s H E hr tk
  exact ⟨_, (pss_cons (ps_if (pt_not (pt_val (pe_callS (ok_is_widths T) (hr.mono (by decide)) rfl T.g_is_widths T.k_is_widths T.b_is_widths (fun σ => passAt tk σ) (pa_cons (pv 1) pa_nil))))
        (pss_one (ps_raise rfl tk (pmk_oex T.ox_BadWeb T.xi_BadWeb T.xt_BadWeb (okx_BadWeb T) (hr.mono (by decide : 2 ≤ _)) T.bx_BadWeb .nil passL rfl T.gx_BadWeb (pa_cons pe_str pa_nil))))
        pss_nil)
      (pss_cons (ps_if (pt_not (pt_val (pe_callS (ok_is_tuple_of T) (hr.mono (by decide)) rfl T.g_is_tuple_of T.k_is_tuple_of T.b_is_tuple_of (fun σ => passAt tk σ) (pa_cons pe_int (pa_cons (pe_glob (v := .int 36) rfl T.c_MOST_PIPES ⟨_, rfl⟩) (pa_cons (pv 2) pa_nil))))))
        (pss_one (ps_raise rfl tk (pmk_oex T.ox_BadWeb T.xi_BadWeb T.xt_BadWeb (okx_BadWeb T) (hr.mono (by decide : 2 ≤ _)) T.bx_BadWeb .nil passL rfl T.gx_BadWeb (pa_cons pe_str pa_nil))))
        pss_nil)
      (pss_cons (ps_for (passes_of rfl) rfl (pi_enumT (by rfl) T.z_enumerate (pa_cons (pv 2) pa_nil)) (pg_tup (by rfl) (pgs_cons (pg_name (i := 3) sc_Web__init__.nd rfl (by first | exact Or.inl rfl | exact Or.inr rfl)) (pgs_cons (pg_name (i := 4) sc_Web__init__.nd rfl (by first | exact Or.inl rfl | exact Or.inr rfl)) pgs_nil)))
        (pss_one (ps_if (pt_not (pt_val (pe_callS (ok_is_pipe T) (hr.mono (by decide)) rfl T.g_is_pipe T.k_is_pipe T.b_is_pipe (fun σ => passAt tk σ) (pa_cons (pe_callB call_len_seq (by rfl) T.z_len (by decide +kernel) (pa_cons (pv 1) pa_nil)) (pa_cons (pv 4) pa_nil)))))
        (pss_one (ps_raise rfl tk (pmk_oex T.ox_BadWeb T.xi_BadWeb T.xt_BadWeb (okx_BadWeb T) (hr.mono (by decide : 2 ≤ _)) T.bx_BadWeb .nil passL rfl T.gx_BadWeb (pa_cons (pv 3) pa_nil))))
        pss_nil)))
      (pss_cons (ps_fld (pv 0) (pv 1) (by rfl))
      (pss_one (ps_fld (pv 0) (pv 2) (by rfl))))))),
    (ds_seq (ds_if (dt_not (dt_B (de_call (n := 1) (fs := fs_is_widths K) (dac_cons (de_var 1) dac_nil)))) (ds_raise1 (C := T.Z.C_BadWeb) (f := "part") de_str) ds_nil)
      (ds_seq (ds_if (dt_not (dt_B (de_call (n := 3) (fs := fs_is_tuple_of K) (dac_cons de_int (dac_cons de_int (dac_cons (de_var 2) dac_nil)))))) (ds_raise1 (C := T.Z.C_BadWeb) (f := "part") de_str) ds_nil)
      (ds_seq (ds_for (wI := (wEnumT (wCons (wVar 2) wNil))) (wg := (wTupT 2 (wConsT (wName 3) (wConsT (wName 4) wNilT)))) (wb := (wIfS (wNot (wB (wCall 2 (fs_is_pipe K) (wcCons (wCB gLen (wCons (wVar 1) wNil)) (wcCons (wVar 4) wcNil))))) (wRaise1 T.Z.C_BadWeb "part" (wVar 3)) wNext)) (di_enumT (da_cons (de_var 2) da_nil)) (dg_tup (n := 2) (dgs_cons (dg_name 3) (dgs_cons (dg_name 4) dgs_nil))) (ds_if (dt_not (dt_B (de_call (n := 2) (fs := fs_is_pipe K) (dac_cons (de_cb o_len (da_cons (de_var 1) da_nil)) (dac_cons (de_var 4) dac_nil))))) (ds_raise1 (C := T.Z.C_BadWeb) (f := "part") (de_var 3)) ds_nil))
      (ds_seq (ds_fld (i := 0) T.it_Web.cl T.na_Web_widths (de_var 1))
      (ds_fld (i := 0) T.it_Web.cl T.na_Web_pipes (de_var 2))))))⟩
abbrev s_is_sight : Stmt := topS 28
theorem sc_is_sight : FnScope ["thing"] ["thing"] (defScope s_is_sight) := ⟨rfl, rfl, rfl, by decide +kernel, rfl, by decide +kernel, by decide +kernel⟩
def w_is_sight (K : PySem.W.Frag) : SW := (wRet (wAndV (wCall 3 (fs_is_tuple_of K) (wcCons (wC (.int 2)) (wcCons (wC (.int 2)) (wcCons (wVar 0) wcNil)))) (wAndV (wCall 1 (fs_is_fraction K) (wcCons (wOp gIx (wVar 0) (wC (.int 0))) wcNil)) (wCall 1 (fs_is_integer K) (wcCons (wOp gIx (wVar 0) (wC (.int 1))) wcNil)))))
def isSg : D → Bool | .tup [x, y] => isFr x && isIntD y | _ => false
def fs_is_sight (K : PySem.W.Frag) : FS := fun cs q _ => ∃ d, cs = [.dat d] ∧ OkD K d ∧ q (.bl (isSg d)) cs
theorem sg_not {d : D} (h : isTupOf 2 2 d = false) : isSg d = false := by
  cases d with
  | tup ds =>
    match ds with
    | [] => rfl
    | [x] => rfl
    | [x, y] => simp [isTupOf] at h
    | x :: y :: z :: r => rfl
  | _ => rfl
theorem pure_is_sight : PureD 1 0 (fs_is_sight K) (w_is_sight K) := by
  rintro cs q e - ⟨d, rfl, hd, hq⟩
  cases h : isTupOf 2 2 d with
  | true =>
    obtain ⟨x, y, rfl⟩ := tup_two h
    have hx := okTup hd (d := x) (by simp)
    have hy := okTup hd (d := y) (by simp)
    have e1 : isSg (.tup [x, y]) = (isFr x && isIntD y) := rfl
    rw [e1] at hq
    simp only [w_is_sight, fs_is_tuple_of, fs_is_fraction, fs_is_integer, h, hd, hx, hy, seqD_t, wAsg2, wTold2, wEnumB, wListOfOwn, wRetOwnG, dcOf, wIsiT, offE, D.adr.injEq, Cont.pool.injEq, ixN31, ne_eq, List.map_cons, List.map_nil, wRaise0, wRaise1, wFrz, wEnumT, wDict0, wDict1, numD3, Nat.reduceAdd, atI0, atI1, atI2, atI3, atI4, ixN51, ixN52, ixN53, List.length_map, scal, V.int.injEq, V.str.injEq, V.bl.injEq, wSq, wNext, wBreak, wDrop, wRet, wIfS, wAsg, wPar, wLstOwn, wAppend, wSetOwn, wIxOwn, wPeek, wRetFr, wFor, wB, wNot, wAnd, wOr, wAndV, wOrV, wNotV, wChain, wNil, wCons, wCB, wTup, wLst, wNoPart, wPart, wSlT, wSeq, wRng1, wRng2, wZip, wName, wNilT, wConsT, wTupT, wYes, wNeg, wVar, wC, wOp, wcNil, wcCons, wcOwn, wCall, wCallOwn, slots, cellsOf, OwnArgs, putBack, g2I, g2IC, gLen, gAbs, gGcd, gInt1, gTupleOf, gListOf, gIx, gCatT, gCat, gEq, gNe, gIsN, gNotN, scD, seqD_t, seqD_l, seqD_f, isNonD, List.nodup_cons, List.mem_cons, List.not_mem_nil, or_false, not_false_eq_true, Nat.reduceEqDiff, L3.Keeps, ends, wipeD, List.replicate, List.cons_append, List.nil_append, List.append_nil, List.getElem?_cons_zero, List.getElem?_cons_succ, List.set_cons_zero, List.set_cons_succ, List.getD_cons_zero, List.getD_cons_succ, List.length_cons, List.length_nil, List.nodup_nil, Option.some.injEq, Cell.dat.injEq, Cell.own.injEq, Cont.lst.injEq, D.bl.injEq, D.int.injEq, D.str.injEq, D.tup.injEq, D.lst.injEq, Arg.d.injEq, List.cons.injEq, exists_and_left, exists_and_right, exists_eq_left', exists_eq_left, exists_eq_right, exists_eq_right', exists_eq, exists_eq', and_true, true_and, and_assoc, and_self, exists_const, reduceCtorEq, web_wE, web_pE, webD_inj]
    cases h2 : isFr x <;> rw [h2] at hq <;> simpa using hq
  | false =>
    rw [sg_not h] at hq
    simp only [w_is_sight, fs_is_tuple_of, fs_is_fraction, fs_is_integer, h, hd, wAsg2, wTold2, wEnumB, wListOfOwn, wRetOwnG, dcOf, wIsiT, offE, D.adr.injEq, Cont.pool.injEq, ixN31, ne_eq, List.map_cons, List.map_nil, wRaise0, wRaise1, wFrz, wEnumT, wDict0, wDict1, numD3, Nat.reduceAdd, atI0, atI1, atI2, atI3, atI4, ixN51, ixN52, ixN53, List.length_map, scal, V.int.injEq, V.str.injEq, V.bl.injEq, wSq, wNext, wBreak, wDrop, wRet, wIfS, wAsg, wPar, wLstOwn, wAppend, wSetOwn, wIxOwn, wPeek, wRetFr, wFor, wB, wNot, wAnd, wOr, wAndV, wOrV, wNotV, wChain, wNil, wCons, wCB, wTup, wLst, wNoPart, wPart, wSlT, wSeq, wRng1, wRng2, wZip, wName, wNilT, wConsT, wTupT, wYes, wNeg, wVar, wC, wOp, wcNil, wcCons, wcOwn, wCall, wCallOwn, slots, cellsOf, OwnArgs, putBack, g2I, g2IC, gLen, gAbs, gGcd, gInt1, gTupleOf, gListOf, gIx, gCatT, gCat, gEq, gNe, gIsN, gNotN, scD, seqD_t, seqD_l, seqD_f, isNonD, List.nodup_cons, List.mem_cons, List.not_mem_nil, or_false, not_false_eq_true, Nat.reduceEqDiff, L3.Keeps, ends, wipeD, List.replicate, List.cons_append, List.nil_append, List.append_nil, List.getElem?_cons_zero, List.getElem?_cons_succ, List.set_cons_zero, List.set_cons_succ, List.getD_cons_zero, List.getD_cons_succ, List.length_cons, List.length_nil, List.nodup_nil, Option.some.injEq, Cell.dat.injEq, Cell.own.injEq, Cont.lst.injEq, D.bl.injEq, D.int.injEq, D.str.injEq, D.tup.injEq, D.lst.injEq, Arg.d.injEq, List.cons.injEq, exists_and_left, exists_and_right, exists_eq_left', exists_eq_left, exists_eq_right, exists_eq_right', exists_eq, exists_eq', and_true, true_and, and_assoc, and_self, exists_const, reduceCtorEq, web_wE, web_pE, webD_inj]
    simpa using hq
theorem ok_is_sight (T : Txt K mg) : FnOk P w K mg base (L2.CX P w) 3 T.f_is_sight T.fd_is_sight ["thing"] (spOf K 1 (fs_is_sight K)) := by
  refine def_ok T.F_is_sight sc_is_sight (wb := w_is_sight K) pure_is_sight ?_
  intro cdv A outer s H E hr tk
  exact ⟨_, (pss_one (ps_ret (pe_and (pe_callS (ok_is_tuple_of T) (hr.mono (by decide)) rfl T.g_is_tuple_of T.k_is_tuple_of T.b_is_tuple_of (fun σ => passAt tk σ) (pa_cons pe_int (pa_cons pe_int (pa_cons (pv 0) pa_nil)))) (pe_and (pe_callS (ok_is_fraction T) (hr.mono (by decide)) rfl T.g_is_fraction T.k_is_fraction T.b_is_fraction (fun σ => passAt tk σ) (pa_cons (pe_ix ix_seq (pv 0) pe_int (fun _ _ => rfl)) pa_nil)) (pe_one (pe_callS (ok_is_integer T) (hr.mono (by decide)) rfl T.g_is_integer T.k_is_integer T.b_is_integer (fun σ => passAt tk σ) (pa_cons (pe_ix ix_seq (pv 0) pe_int (fun _ _ => rfl)) pa_nil))))))),
    (ds_ret (de_and (de_call (n := 3) (fs := fs_is_tuple_of K) (dac_cons de_int (dac_cons de_int (dac_cons (de_var 0) dac_nil)))) (de_and (de_call (n := 1) (fs := fs_is_fraction K) (dac_cons (de_op o_ix (de_var 0) de_int) dac_nil)) (de_call (n := 1) (fs := fs_is_integer K) (dac_cons (de_op o_ix (de_var 0) de_int) dac_nil)))))⟩
abbrev s_check_sights : Stmt := topS 29
theorem sc_check_sights : FnScope ["told", "many", "index", "thing"] ["told", "many"] (defScope s_check_sights) := ⟨rfl, rfl, rfl, by decide +kernel, rfl, by decide +kernel, by decide +kernel⟩
def l1_check_sights (K : PySem.W.Frag) (Z : CT) : SW := wFor (wEnumB (wCons (wVar 0) wNil)) (wTupT 2 (wConsT (wName 2) (wConsT (wName 3) wNilT))) (wIfS (wNot (wB (wCall 1 (fs_is_sight K) (wcCons (wVar 3) wcNil)))) (wRaise1 Z.C_NoSights "index" (wVar 2)) wNext)
def w_check_sights (K : PySem.W.Frag) (Z : CT) : SW := (wSq (wIfS (wOr (wNot (wB (wIsiT K "list" "tuple" (wVar 0)))) (wB (wOp gGtI (wCB gLen (wCons (wVar 0) wNil)) (wC (.int 1000))))) (wRaise1 Z.C_NoSights "index" (wNeg (wC (.int 1)))) wNext)
  (wSq (l1_check_sights K Z)
  (wIfS (wNot (wB (wCall 3 (fs_is_between K) (wcCons (wC (.int 1)) (wcCons (wC (.int 6)) (wcCons (wVar 1) wcNil)))))) (wRaise0 Z.C_NoNumber) wNext)))
/-- told as it stands: a list or a tuple -/
def ToldD (d : D) (es : List D) : Prop := d = .lst es ∨ d = .tup es
theorem told_seq {d : D} {es : List D} (h : ToldD d es) : seqD d = some es := by
  rcases h with rfl | rfl <;> rfl
theorem told_okd {d : D} {es : List D} (h : ToldD d es) (he : ∀ x ∈ es, OkD K x) : OkD K d := by
  rcases h with rfl | rfl
  all_goals
    unfold OkD
    exact okDs_of he
def fs_check_sights (K : PySem.W.Frag) (Z : CT) : FS := fun cs q e => ∃ d es m, cs = [.dat d, .dat m] ∧ ToldD d es ∧ es.length ≤ 1000 ∧ (∀ x ∈ es, OkD K x) ∧ OkD K m ∧
  (∀ i : Nat, i < es.length → (∃ x ∈ es, isSg x = false) → e ⟨Z.C_NoSights, [("index", .int i)]⟩ cs) ∧ ((∀ x ∈ es, isSg x = true) → isBetw 1 6 m = false → e ⟨Z.C_NoNumber, []⟩ cs) ∧ ((∀ x ∈ es, isSg x = true) → isBetw 1 6 m = true → q .non cs)
theorem l1_check_sights_ok {Z : CT} {d m : D} {es : List D} {c2 c3 : Cell} {E : EndsD} (hd : d = .tup es ∨ d = .lst es) (he : ∀ x ∈ es, OkD K x) (hn : (∀ x ∈ es, isSg x = true) → ∀ c2 c3, E.nx [.dat d, .dat m, c2, c3])
    (hx : ∀ (i : Nat) c2 c3, i < es.length → (∃ x ∈ es, isSg x = false) → E.ex ⟨Z.C_NoSights, [("index", .int i)]⟩ [.dat d, .dat m, c2, c3]) : l1_check_sights K Z E [.dat d, .dat m, c2, c3] := by
  unfold l1_check_sights wFor
  simp only [wAsg2, wTold2, wEnumB, wListOfOwn, wRetOwnG, dcOf, wIsiT, offE, D.adr.injEq, Cont.pool.injEq, ixN31, ne_eq, List.map_cons, List.map_nil, wRaise0, wRaise1, wFrz, wEnumT, wDict0, wDict1, numD3, Nat.reduceAdd, atI0, atI1, atI2, atI3, atI4, ixN51, ixN52, ixN53, List.length_map, scal, V.int.injEq, V.str.injEq, V.bl.injEq, wSq, wNext, wBreak, wDrop, wRet, wIfS, wAsg, wPar, wLstOwn, wAppend, wSetOwn, wIxOwn, wPeek, wRetFr, wFor, wB, wNot, wAnd, wOr, wAndV, wOrV, wNotV, wChain, wNil, wCons, wCB, wTup, wLst, wNoPart, wPart, wSlT, wSeq, wRng1, wRng2, wZip, wName, wNilT, wConsT, wTupT, wYes, wNeg, wVar, wC, wOp, wcNil, wcCons, wcOwn, wCall, wCallOwn, slots, cellsOf, OwnArgs, putBack, g2I, g2IC, gLen, gAbs, gGcd, gInt1, gTupleOf, gListOf, gIx, gCatT, gCat, gEq, gNe, gIsN, gNotN, scD, seqD_t, seqD_l, seqD_f, isNonD, List.nodup_cons, List.mem_cons, List.not_mem_nil, or_false, not_false_eq_true, Nat.reduceEqDiff, L3.Keeps, ends, wipeD, List.replicate, List.cons_append, List.nil_append, List.append_nil, List.getElem?_cons_zero, List.getElem?_cons_succ, List.set_cons_zero, List.set_cons_succ, List.getD_cons_zero, List.getD_cons_succ, List.length_cons, List.length_nil, List.nodup_nil, Option.some.injEq, Cell.dat.injEq, Cell.own.injEq, Cont.lst.injEq, D.bl.injEq, D.int.injEq, D.str.injEq, D.tup.injEq, D.lst.injEq, Arg.d.injEq, List.cons.injEq, exists_and_left, exists_and_right, exists_eq_left', exists_eq_left, exists_eq_right, exists_eq_right', exists_eq, exists_eq', and_true, true_and, and_assoc, and_self, exists_const, reduceCtorEq, web_wE, web_pE, webD_inj]
  refine ⟨es, by rcases hd with rfl | rfl <;> simp, fun i τ => ∃ c2 c3, τ = [.dat d, .dat m, c2, c3] ∧ ∀ j x, j < i → es[j]? = some x → isSg x = true, ⟨_, _, rfl, fun j x h => absurd h (Nat.not_lt_zero _)⟩, ?_, ?_⟩
  · rintro i x τ2 hi ⟨c2, c3, rfl, hk⟩
    rw [List.getElem?_mapIdx] at hi
    obtain ⟨y, ey, rfl⟩ := Option.map_eq_some_iff.mp hi
    have il := (List.getElem?_eq_some_iff.mp ey).1
    have my := List.mem_of_getElem? ey
    simp only [fs_is_sight, wAsg2, wTold2, wEnumB, wListOfOwn, wRetOwnG, dcOf, wIsiT, offE, D.adr.injEq, Cont.pool.injEq, ixN31, ne_eq, List.map_cons, List.map_nil, wRaise0, wRaise1, wFrz, wEnumT, wDict0, wDict1, numD3, Nat.reduceAdd, atI0, atI1, atI2, atI3, atI4, ixN51, ixN52, ixN53, List.length_map, scal, V.int.injEq, V.str.injEq, V.bl.injEq, wSq, wNext, wBreak, wDrop, wRet, wIfS, wAsg, wPar, wLstOwn, wAppend, wSetOwn, wIxOwn, wPeek, wRetFr, wFor, wB, wNot, wAnd, wOr, wAndV, wOrV, wNotV, wChain, wNil, wCons, wCB, wTup, wLst, wNoPart, wPart, wSlT, wSeq, wRng1, wRng2, wZip, wName, wNilT, wConsT, wTupT, wYes, wNeg, wVar, wC, wOp, wcNil, wcCons, wcOwn, wCall, wCallOwn, slots, cellsOf, OwnArgs, putBack, g2I, g2IC, gLen, gAbs, gGcd, gInt1, gTupleOf, gListOf, gIx, gCatT, gCat, gEq, gNe, gIsN, gNotN, scD, seqD_t, seqD_l, seqD_f, isNonD, List.nodup_cons, List.mem_cons, List.not_mem_nil, or_false, not_false_eq_true, Nat.reduceEqDiff, L3.Keeps, ends, wipeD, List.replicate, List.cons_append, List.nil_append, List.append_nil, List.getElem?_cons_zero, List.getElem?_cons_succ, List.set_cons_zero, List.set_cons_succ, List.getD_cons_zero, List.getD_cons_succ, List.length_cons, List.length_nil, List.nodup_nil, Option.some.injEq, Cell.dat.injEq, Cell.own.injEq, Cont.lst.injEq, D.bl.injEq, D.int.injEq, D.str.injEq, D.tup.injEq, D.lst.injEq, Arg.d.injEq, List.cons.injEq, exists_and_left, exists_and_right, exists_eq_left', exists_eq_left, exists_eq_right, exists_eq_right', exists_eq, exists_eq', and_true, true_and, and_assoc, and_self, exists_const, reduceCtorEq, web_wE, web_pE, webD_inj]
    refine ⟨he y my, fun z => hx i _ _ il ⟨y, my, by simpa using z⟩, fun z => fun j x hj ex => ?_⟩
    by_cases e : j = i
    · subst e
      rw [ey] at ex
      cases ex
      simpa using z
    · exact hk j x (by omega) ex
  · rintro τ2 ⟨c2, c3, rfl, hk⟩
    rw [List.length_mapIdx] at hk
    refine hn (fun x hx => ?_) _ _
    obtain ⟨j, ej⟩ := List.getElem?_of_mem hx
    exact hk j x (List.getElem?_eq_some_iff.mp ej).1 ej
theorem pure_check_sights {Z : CT} : PureD 2 2 (fs_check_sights K Z) (w_check_sights K Z) := by
  rintro cs q e - ⟨d, es, m, rfl, hd, hl, he, hm, h1, h2, hq⟩
  have hs := told_seq hd
  have ok := told_okd (K := K) hd he
  simp only [w_check_sights, hs, wAsg2, wTold2, wEnumB, wListOfOwn, wRetOwnG, dcOf, wIsiT, offE, D.adr.injEq, Cont.pool.injEq, ixN31, ne_eq, List.map_cons, List.map_nil, wRaise0, wRaise1, wFrz, wEnumT, wDict0, wDict1, numD3, Nat.reduceAdd, atI0, atI1, atI2, atI3, atI4, ixN51, ixN52, ixN53, List.length_map, scal, V.int.injEq, V.str.injEq, V.bl.injEq, wSq, wNext, wBreak, wDrop, wRet, wIfS, wAsg, wPar, wLstOwn, wAppend, wSetOwn, wIxOwn, wPeek, wRetFr, wFor, wB, wNot, wAnd, wOr, wAndV, wOrV, wNotV, wChain, wNil, wCons, wCB, wTup, wLst, wNoPart, wPart, wSlT, wSeq, wRng1, wRng2, wZip, wName, wNilT, wConsT, wTupT, wYes, wNeg, wVar, wC, wOp, wcNil, wcCons, wcOwn, wCall, wCallOwn, slots, cellsOf, OwnArgs, putBack, g2I, g2IC, gLen, gAbs, gGcd, gInt1, gTupleOf, gListOf, gIx, gCatT, gCat, gEq, gNe, gIsN, gNotN, scD, seqD_t, seqD_l, seqD_f, isNonD, List.nodup_cons, List.mem_cons, List.not_mem_nil, or_false, not_false_eq_true, Nat.reduceEqDiff, L3.Keeps, ends, wipeD, List.replicate, List.cons_append, List.nil_append, List.append_nil, List.getElem?_cons_zero, List.getElem?_cons_succ, List.set_cons_zero, List.set_cons_succ, List.getD_cons_zero, List.getD_cons_succ, List.length_cons, List.length_nil, List.nodup_nil, Option.some.injEq, Cell.dat.injEq, Cell.own.injEq, Cont.lst.injEq, D.bl.injEq, D.int.injEq, D.str.injEq, D.tup.injEq, D.lst.injEq, Arg.d.injEq, List.cons.injEq, exists_and_left, exists_and_right, exists_eq_left', exists_eq_left, exists_eq_right, exists_eq_right', exists_eq, exists_eq', and_true, true_and, and_assoc, and_self, exists_const, reduceCtorEq, web_wE, web_pE, webD_inj]
  rcases hd with rfl | rfl
  all_goals
    refine ⟨.inl trivial, true, rfl, fun _ => ⟨fun z => absurd (of_decide_eq_true z) (by omega), fun _ => ?_⟩, fun z => (nomatch z)⟩
    refine l1_check_sights_ok (by simp) he (fun ha c2 c3 => ?_) (fun i c2 c3 hi hb => ?_)
    · simp only [fs_is_between, hm, wAsg2, wTold2, wEnumB, wListOfOwn, wRetOwnG, dcOf, wIsiT, offE, D.adr.injEq, Cont.pool.injEq, ixN31, ne_eq, List.map_cons, List.map_nil, wRaise0, wRaise1, wFrz, wEnumT, wDict0, wDict1, numD3, Nat.reduceAdd, atI0, atI1, atI2, atI3, atI4, ixN51, ixN52, ixN53, List.length_map, scal, V.int.injEq, V.str.injEq, V.bl.injEq, wSq, wNext, wBreak, wDrop, wRet, wIfS, wAsg, wPar, wLstOwn, wAppend, wSetOwn, wIxOwn, wPeek, wRetFr, wFor, wB, wNot, wAnd, wOr, wAndV, wOrV, wNotV, wChain, wNil, wCons, wCB, wTup, wLst, wNoPart, wPart, wSlT, wSeq, wRng1, wRng2, wZip, wName, wNilT, wConsT, wTupT, wYes, wNeg, wVar, wC, wOp, wcNil, wcCons, wcOwn, wCall, wCallOwn, slots, cellsOf, OwnArgs, putBack, g2I, g2IC, gLen, gAbs, gGcd, gInt1, gTupleOf, gListOf, gIx, gCatT, gCat, gEq, gNe, gIsN, gNotN, scD, seqD_t, seqD_l, seqD_f, isNonD, List.nodup_cons, List.mem_cons, List.not_mem_nil, or_false, not_false_eq_true, Nat.reduceEqDiff, L3.Keeps, ends, wipeD, List.replicate, List.cons_append, List.nil_append, List.append_nil, List.getElem?_cons_zero, List.getElem?_cons_succ, List.set_cons_zero, List.set_cons_succ, List.getD_cons_zero, List.getD_cons_succ, List.length_cons, List.length_nil, List.nodup_nil, Option.some.injEq, Cell.dat.injEq, Cell.own.injEq, Cont.lst.injEq, D.bl.injEq, D.int.injEq, D.str.injEq, D.tup.injEq, D.lst.injEq, Arg.d.injEq, List.cons.injEq, exists_and_left, exists_and_right, exists_eq_left', exists_eq_left, exists_eq_right, exists_eq_right', exists_eq, exists_eq', and_true, true_and, and_assoc, and_self, exists_const, reduceCtorEq, web_wE, web_pE, webD_inj]
      refine ⟨fun z => h2 ha (by simpa using z), fun z => hq ha (by simpa using z)⟩
    · simp only [wAsg2, wTold2, wEnumB, wListOfOwn, wRetOwnG, dcOf, wIsiT, offE, D.adr.injEq, Cont.pool.injEq, ixN31, ne_eq, List.map_cons, List.map_nil, wRaise0, wRaise1, wFrz, wEnumT, wDict0, wDict1, numD3, Nat.reduceAdd, atI0, atI1, atI2, atI3, atI4, ixN51, ixN52, ixN53, List.length_map, scal, V.int.injEq, V.str.injEq, V.bl.injEq, wSq, wNext, wBreak, wDrop, wRet, wIfS, wAsg, wPar, wLstOwn, wAppend, wSetOwn, wIxOwn, wPeek, wRetFr, wFor, wB, wNot, wAnd, wOr, wAndV, wOrV, wNotV, wChain, wNil, wCons, wCB, wTup, wLst, wNoPart, wPart, wSlT, wSeq, wRng1, wRng2, wZip, wName, wNilT, wConsT, wTupT, wYes, wNeg, wVar, wC, wOp, wcNil, wcCons, wcOwn, wCall, wCallOwn, slots, cellsOf, OwnArgs, putBack, g2I, g2IC, gLen, gAbs, gGcd, gInt1, gTupleOf, gListOf, gIx, gCatT, gCat, gEq, gNe, gIsN, gNotN, scD, seqD_t, seqD_l, seqD_f, isNonD, List.nodup_cons, List.mem_cons, List.not_mem_nil, or_false, not_false_eq_true, Nat.reduceEqDiff, L3.Keeps, ends, wipeD, List.replicate, List.cons_append, List.nil_append, List.append_nil, List.getElem?_cons_zero, List.getElem?_cons_succ, List.set_cons_zero, List.set_cons_succ, List.getD_cons_zero, List.getD_cons_succ, List.length_cons, List.length_nil, List.nodup_nil, Option.some.injEq, Cell.dat.injEq, Cell.own.injEq, Cont.lst.injEq, D.bl.injEq, D.int.injEq, D.str.injEq, D.tup.injEq, D.lst.injEq, Arg.d.injEq, List.cons.injEq, exists_and_left, exists_and_right, exists_eq_left', exists_eq_left, exists_eq_right, exists_eq_right', exists_eq, exists_eq', and_true, true_and, and_assoc, and_self, exists_const, reduceCtorEq, web_wE, web_pE, webD_inj]
      exact h1 i hi hb
theorem ok_check_sights (T : Txt K mg) : FnOk P w K mg base (L2.CX P w) 4 T.f_check_sights T.fd_check_sights ["told", "many"] (spOf K 2 (fs_check_sights K T.Z)) := by
  refine def_ok T.F_check_sights sc_check_sights (wb := w_check_sights K T.Z) pure_check_sights ?_
  intro cdv A outer s H E hr tk
  exact ⟨_, (pss_cons (ps_if (PW.pt (pw_or (pt_not (pt_val (pe_callB call_isiT (by rfl) T.z_isinstance (by decide +kernel) (pa_cons (pv 0) (pa_cons (pe_tup (pa_cons (pe_bltn (v := .ty "list") (by rfl) T.z_list (by decide +kernel) rfl) (pa_cons (pe_bltn (v := .ty "tuple") (by rfl) T.z_tuple (by decide +kernel) rfl) pa_nil))) pa_nil))))) (pw_or1 (pt_cmpR op_gt (pe_callB call_len_seq (by rfl) T.z_len (by decide +kernel) (pa_cons (pv 0) pa_nil)) (pe_glob (v := .int 1000) rfl T.c_MOST_SIGHTS ⟨_, rfl⟩) (nomark _)))))
        (pss_one (ps_raise rfl tk (pmk_oex T.ox_NoSights T.xi_NoSights T.xt_NoSights (okx_NoSights T) (hr.mono (by decide : 2 ≤ _)) T.bx_NoSights .nil passL rfl T.gx_NoSights (pa_cons (pe_un un_neg pe_int) pa_nil))))
        pss_nil)
      (pss_cons (ps_for (passes_of rfl) rfl (pi_enumB (by rfl) T.z_enumerate (pa_cons (pv 0) pa_nil)) (pg_tup (by rfl) (pgs_cons (pg_name (i := 2) sc_check_sights.nd rfl (by first | exact Or.inl rfl | exact Or.inr rfl)) (pgs_cons (pg_name (i := 3) sc_check_sights.nd rfl (by first | exact Or.inl rfl | exact Or.inr rfl)) pgs_nil)))
        (pss_one (ps_if (pt_not (pt_val (pe_callS (ok_is_sight T) (hr.mono (by decide)) rfl T.g_is_sight T.k_is_sight T.b_is_sight (fun σ => passAt tk σ) (pa_cons (pv 3) pa_nil))))
        (pss_one (ps_raise rfl tk (pmk_oex T.ox_NoSights T.xi_NoSights T.xt_NoSights (okx_NoSights T) (hr.mono (by decide : 2 ≤ _)) T.bx_NoSights .nil passL rfl T.gx_NoSights (pa_cons (pv 2) pa_nil))))
        pss_nil)))
      (pss_one (ps_if (pt_not (pt_val (pe_callS (ok_is_between T) (hr.mono (by decide)) rfl T.g_is_between T.k_is_between T.b_is_between (fun σ => passAt tk σ) (pa_cons pe_int (pa_cons (pe_glob (v := .int 6) rfl T.c_MOST_THRESHOLDS ⟨_, rfl⟩) (pa_cons (pv 1) pa_nil))))))
        (pss_one (ps_raise rfl tk (pmk0 T.x_NoNumber (hr.mono (by decide : 0 ≤ _)))))
        pss_nil)))),
    (ds_seq (ds_if (dt_or (dt_not (dt_B (de_isiT (A := "list") (B := "tuple") (de_var 0)))) (dt_B (de_op o_gt (de_cb o_len (da_cons (de_var 0) da_nil)) de_int))) (ds_raise1 (C := T.Z.C_NoSights) (f := "index") (de_neg de_int)) ds_nil)
      (ds_seq (ds_for (wI := (wEnumB (wCons (wVar 0) wNil))) (wg := (wTupT 2 (wConsT (wName 2) (wConsT (wName 3) wNilT)))) (wb := (wIfS (wNot (wB (wCall 1 (fs_is_sight K) (wcCons (wVar 3) wcNil)))) (wRaise1 T.Z.C_NoSights "index" (wVar 2)) wNext)) (di_enumB (da_cons (de_var 0) da_nil)) (dg_tup (n := 2) (dgs_cons (dg_name 2) (dgs_cons (dg_name 3) dgs_nil))) (ds_if (dt_not (dt_B (de_call (n := 1) (fs := fs_is_sight K) (dac_cons (de_var 3) dac_nil)))) (ds_raise1 (C := T.Z.C_NoSights) (f := "index") (de_var 2)) ds_nil))
      (ds_if (dt_not (dt_B (de_call (n := 3) (fs := fs_is_between K) (dac_cons de_int (dac_cons de_int (dac_cons (de_var 1) dac_nil)))))) (ds_raise0 (C := T.Z.C_NoNumber)) ds_nil)))⟩
abbrev s_bars_alone : Stmt := topS 31
theorem sc_bars_alone : FnScope ["many", "sight", "drop", "ran"] ["many", "sight"] (defScope s_bars_alone) := ⟨rfl, rfl, rfl, by decide +kernel, rfl, by decide +kernel, by decide +kernel⟩
def w_bars_alone (K : PySem.W.Frag) : SW := (wSq (wAsg (wVar 1) (wTupT 2 (wConsT (wName 2) (wConsT (wName 3) wNilT))))
  (wRet (wOrV (wOp gGtI (wCB gAbs (wCons (wVar 3) wNil)) (wVar 0)) (wOrV (wOp gLtI (wOp gMulA (wOp gIx (wVar 2) (wC (.int 0))) (wVar 3)) (wC (.int 0))) (wAndV (wOp gEq (wOp gIx (wVar 2) (wC (.int 0))) (wC (.int 0))) (wOp gNe (wVar 3) (wC (.int 0))))))))
/-- a sight: drop t by b, flow r -/
abbrev Sg := Int × Int × Int
abbrev sgT (s : Sg) : D := .tup [.tup [.int s.1, .int s.2.1], .int s.2.2]
abbrev sgs (ss : List Sg) : List D := ss.map sgT
def ab (x : Int) : Int := if x < 0 then -x else x
def SgOk (s : Sg) : Prop := isFr (.tup [.int s.1, .int s.2.1]) = true ∧ s.1.natAbs < 2 ^ 180 ∧ s.2.1.natAbs < 2 ^ 180 ∧ s.2.2.natAbs < 2 ^ 180
theorem sg_b {s : Sg} (h : SgOk s) : 0 < s.2.1 := by
  have := h.1
  simp [isFr] at this
  omega
theorem sg_is {s : Sg} (h : SgOk s) : isSg (sgT s) = true := by
  show (isFr _ && isIntD _) = true
  rw [h.1]
  rfl
/-- it bars alone -/
def barP (m : Int) (s : Sg) : Prop := m < ab s.2.2 ∨ s.1 * s.2.2 < 0 ∨ (s.1 = 0 ∧ s.2.2 ≠ 0)
def fs_bars_alone (K : PySem.W.Frag) : FS := fun cs q _ => ∃ (m : Int) (s : Sg), cs = [.dat (.int m), .dat (sgT s)] ∧ SgOk s ∧ ∀ b : Bool, (b = true ↔ barP m s) → q (.bl b) cs
theorem pure_bars_alone : PureD 2 2 (fs_bars_alone K) (w_bars_alone K) := by
  rintro cs q e - ⟨m, ⟨t, b, r⟩, rfl, ⟨b0, h1, h2, h3⟩, hq⟩
  have cm : CMulA t r := cmul_w h1 h3 (by decide) (by decide) (by decide)
  simp only [w_bars_alone, seqD_t, atI0, atI1, cm, wAsg2, wTold2, wEnumB, wListOfOwn, wRetOwnG, dcOf, wIsiT, offE, D.adr.injEq, Cont.pool.injEq, ixN31, ne_eq, List.map_cons, List.map_nil, wRaise0, wRaise1, wFrz, wEnumT, wDict0, wDict1, numD3, Nat.reduceAdd, atI0, atI1, atI2, atI3, atI4, ixN51, ixN52, ixN53, List.length_map, scal, V.int.injEq, V.str.injEq, V.bl.injEq, wSq, wNext, wBreak, wDrop, wRet, wIfS, wAsg, wPar, wLstOwn, wAppend, wSetOwn, wIxOwn, wPeek, wRetFr, wFor, wB, wNot, wAnd, wOr, wAndV, wOrV, wNotV, wChain, wNil, wCons, wCB, wTup, wLst, wNoPart, wPart, wSlT, wSeq, wRng1, wRng2, wZip, wName, wNilT, wConsT, wTupT, wYes, wNeg, wVar, wC, wOp, wcNil, wcCons, wcOwn, wCall, wCallOwn, slots, cellsOf, OwnArgs, putBack, g2I, g2IC, gLen, gAbs, gGcd, gInt1, gTupleOf, gListOf, gIx, gCatT, gCat, gEq, gNe, gIsN, gNotN, scD, seqD_t, seqD_l, seqD_f, isNonD, List.nodup_cons, List.mem_cons, List.not_mem_nil, or_false, not_false_eq_true, Nat.reduceEqDiff, L3.Keeps, ends, wipeD, List.replicate, List.cons_append, List.nil_append, List.append_nil, List.getElem?_cons_zero, List.getElem?_cons_succ, List.set_cons_zero, List.set_cons_succ, List.getD_cons_zero, List.getD_cons_succ, List.length_cons, List.length_nil, List.nodup_nil, Option.some.injEq, Cell.dat.injEq, Cell.own.injEq, Cont.lst.injEq, D.bl.injEq, D.int.injEq, D.str.injEq, D.tup.injEq, D.lst.injEq, Arg.d.injEq, List.cons.injEq, exists_and_left, exists_and_right, exists_eq_left', exists_eq_left, exists_eq_right, exists_eq_right', exists_eq, exists_eq', and_true, true_and, and_assoc, and_self, exists_const, reduceCtorEq, web_wE, web_pE, webD_inj]
  have ea : (if r < 0 then -r else r) = ab r := rfl
  rw [ea]
  have e0 : barP m (t, b, r) ↔ (m < ab r ∨ t * r < 0 ∨ (t = 0 ∧ r ≠ 0)) := Iff.rfl
  refine ⟨fun z => ⟨fun z2 => ⟨fun z3 => hq _ ?_, fun z3 => hq _ ?_⟩, fun z2 => hq _ ?_⟩, fun z => hq _ ?_⟩
  · rw [e0]
    have z := of_decide_eq_false z
    have z2 := of_decide_eq_false z2
    have z3 := of_decide_eq_true z3
    simp [z, z2, z3]
  · rw [e0]
    have z := of_decide_eq_false z
    have z2 := of_decide_eq_false z2
    have z3 := of_decide_eq_false z3
    simp [z, z2, z3]
  · rw [e0]
    have z2 := of_decide_eq_true z2
    simp [z2]
  · rw [e0]
    have z := of_decide_eq_true z
    simp [z]
theorem ok_bars_alone (T : Txt K mg) : FnOk P w K mg base (L2.CX P w) 1 T.f_bars_alone T.fd_bars_alone ["many", "sight"] (spOf K 2 (fs_bars_alone K)) := by
  refine def_ok T.F_bars_alone sc_bars_alone (wb := w_bars_alone K) pure_bars_alone ?_
  intro cdv A outer s H E hr tk
  exact ⟨_, (pss_cons (ps_asg (pv 1) (pg_tup (by rfl) (pgs_cons (pg_name (i := 2) sc_bars_alone.nd rfl (by first | exact Or.inl rfl | exact Or.inr rfl)) (pgs_cons (pg_name (i := 3) sc_bars_alone.nd rfl (by first | exact Or.inl rfl | exact Or.inr rfl)) pgs_nil))))
      (pss_one (ps_ret (pe_or (pe_cmpR op_gt (pe_callB call_abs (by rfl) T.z_abs (by decide +kernel) (pa_cons (pv 3) pa_nil)) (pv 0) (nomark _)) (pe_or (pe_cmpR op_lt (pe_op op_mulA (pe_ix ix_seq (pv 2) pe_int (fun _ _ => rfl)) (pv 3)) pe_int (nomark _)) (pe_one (pe_and (pe_cmpR op_eq (pe_ix ix_seq (pv 2) pe_int (fun _ _ => rfl)) pe_int (nomark _)) (pe_one (pe_cmpR op_ne (pv 3) pe_int (nomark _)))))))))),
    (ds_seq (ds_asg (de_var 1) (dg_tup (n := 2) (dgs_cons (dg_name 2) (dgs_cons (dg_name 3) dgs_nil))))
      (ds_ret (de_or (de_op o_gt (de_cb o_abs (da_cons (de_var 3) da_nil)) (de_var 0)) (de_or (de_op o_lt (de_op o_mulA (de_op o_ix (de_var 2) de_int) (de_var 3)) de_int) (de_and (de_op o_eq (de_op o_ix (de_var 2) de_int) de_int) (de_op o_ne (de_var 3) de_int))))))⟩
abbrev s_amount : Stmt := topS 30
theorem sc_amount : FnScope ["drop"] ["drop"] (defScope s_amount) := ⟨rfl, rfl, rfl, by decide +kernel, rfl, by decide +kernel, by decide +kernel⟩
def w_amount (K : PySem.W.Frag) : SW := (wRet (wTup (wCons (wCB gAbs (wCons (wOp gIx (wVar 0) (wC (.int 0))) wNil)) (wCons (wOp gIx (wVar 0) (wC (.int 1))) wNil))))
def fs_amount (K : PySem.W.Frag) : FS := fun cs q _ => ∃ (t b : Int), cs = [.dat (.tup [.int t, .int b])] ∧ q (.tup [.int (ab t), .int b]) cs
theorem pure_amount : PureD 1 0 (fs_amount K) (w_amount K) := by
  rintro cs q e - ⟨t, b, rfl, hq⟩
  simp only [w_amount, seqD_t, atI0, atI1, wAsg2, wTold2, wEnumB, wListOfOwn, wRetOwnG, dcOf, wIsiT, offE, D.adr.injEq, Cont.pool.injEq, ixN31, ne_eq, List.map_cons, List.map_nil, wRaise0, wRaise1, wFrz, wEnumT, wDict0, wDict1, numD3, Nat.reduceAdd, atI0, atI1, atI2, atI3, atI4, ixN51, ixN52, ixN53, List.length_map, scal, V.int.injEq, V.str.injEq, V.bl.injEq, wSq, wNext, wBreak, wDrop, wRet, wIfS, wAsg, wPar, wLstOwn, wAppend, wSetOwn, wIxOwn, wPeek, wRetFr, wFor, wB, wNot, wAnd, wOr, wAndV, wOrV, wNotV, wChain, wNil, wCons, wCB, wTup, wLst, wNoPart, wPart, wSlT, wSeq, wRng1, wRng2, wZip, wName, wNilT, wConsT, wTupT, wYes, wNeg, wVar, wC, wOp, wcNil, wcCons, wcOwn, wCall, wCallOwn, slots, cellsOf, OwnArgs, putBack, g2I, g2IC, gLen, gAbs, gGcd, gInt1, gTupleOf, gListOf, gIx, gCatT, gCat, gEq, gNe, gIsN, gNotN, scD, seqD_t, seqD_l, seqD_f, isNonD, List.nodup_cons, List.mem_cons, List.not_mem_nil, or_false, not_false_eq_true, Nat.reduceEqDiff, L3.Keeps, ends, wipeD, List.replicate, List.cons_append, List.nil_append, List.append_nil, List.getElem?_cons_zero, List.getElem?_cons_succ, List.set_cons_zero, List.set_cons_succ, List.getD_cons_zero, List.getD_cons_succ, List.length_cons, List.length_nil, List.nodup_nil, Option.some.injEq, Cell.dat.injEq, Cell.own.injEq, Cont.lst.injEq, D.bl.injEq, D.int.injEq, D.str.injEq, D.tup.injEq, D.lst.injEq, Arg.d.injEq, List.cons.injEq, exists_and_left, exists_and_right, exists_eq_left', exists_eq_left, exists_eq_right, exists_eq_right', exists_eq, exists_eq', and_true, true_and, and_assoc, and_self, exists_const, reduceCtorEq, web_wE, web_pE, webD_inj]
  exact ⟨by decide, hq⟩
theorem ok_amount (T : Txt K mg) : FnOk P w K mg base (L2.CX P w) 1 T.f_amount T.fd_amount ["drop"] (spOf K 1 (fs_amount K)) := by
  refine def_ok T.F_amount sc_amount (wb := w_amount K) pure_amount ?_
  intro cdv A outer s H E hr tk
  exact ⟨_, (pss_one (ps_ret (pe_tup (pa_cons (pe_callB call_abs (by rfl) T.z_abs (by decide +kernel) (pa_cons (pe_ix ix_seq (pv 0) pe_int (fun _ _ => rfl)) pa_nil)) (pa_cons (pe_ix ix_seq (pv 0) pe_int (fun _ _ => rfl)) pa_nil))))),
    (ds_ret (de_tup (da_cons (de_cb o_abs (da_cons (de_op o_ix (de_var 0) de_int) da_nil)) (da_cons (de_op o_ix (de_var 0) de_int) da_nil))))⟩
abbrev s_edges : Stmt := topS 32
theorem sc_edges : FnScope ["told", "number", "above", "most", "index", "drop", "ran"] ["told", "number"] (defScope s_edges) := ⟨rfl, rfl, rfl, by decide +kernel, rfl, by decide +kernel, by decide +kernel⟩
def l1_edges (K : PySem.W.Frag) : SW := wFor (wEnumB (wCons (wVar 0) wNil)) (wTupT 2 (wConsT (wName 4) (wConsT (wTupT 2 (wConsT (wName 5) (wConsT (wName 6) wNilT))) wNilT))) (wIfS (wB (wOp gLtI (wCB gAbs (wCons (wVar 6) wNil)) (wVar 1))) (wIfS (wOr (wB (wOp gIsN (wVar 2) (wC .non))) (wNot (wB (wCall 2 (fs_at_most K) (wcCons (wCall 1 (fs_amount K) (wcCons (wVar 5) wcNil)) (wcCons (wCall 1 (fs_amount K) (wcCons (wOp gIx (wOp gIx (wVar 0) (wVar 2)) (wC (.int 0))) wcNil)) wcNil)))))) (wAsg (wVar 4) (wName 2)) wNext) (wIfS (wOr (wB (wOp gIsN (wVar 3) (wC .non))) (wNot (wB (wCall 2 (fs_at_most K) (wcCons (wCall 1 (fs_amount K) (wcCons (wOp gIx (wOp gIx (wVar 0) (wVar 3)) (wC (.int 0))) wcNil)) (wcCons (wCall 1 (fs_amount K) (wcCons (wVar 5) wcNil)) wcNil)))))) (wAsg (wVar 4) (wName 3)) wNext))
def w_edges (K : PySem.W.Frag) : SW := (wSq (wAsg2 (wC .non) (wName 2) (wName 3))
  (wSq (l1_edges K)
  (wRet (wTup (wCons (wVar 2) (wCons (wVar 3) wNil))))))
/-- the amount of x is at most that of y -/
abbrev amLe (x y : Sg) : Prop := ab x.1 * y.2.1 ≤ ab y.1 * x.2.1
theorem ab_nn (x : Int) : 0 ≤ ab x := by unfold ab; split <;> omega
theorem ab_sz {x : Int} {n : Nat} (h : x.natAbs < n) : (ab x).natAbs < n := by unfold ab; split <;> omega
theorem am_tot (x y : Sg) : amLe x y ∨ amLe y x := by unfold amLe; omega
theorem am_trans {x y z : Sg} (hx : SgOk x) (hy : SgOk y) (hz : SgOk z) (h1 : amLe x y) (h2 : amLe y z) : amLe x z := by
  have bx := sg_b hx
  have by' := sg_b hy
  have bz := sg_b hz
  unfold amLe at *
  have k1 := Int.mul_le_mul_of_nonneg_right h1 (show 0 ≤ z.2.1 by omega)
  have k2 := Int.mul_le_mul_of_nonneg_right h2 (show 0 ≤ x.2.1 by omega)
  have e1 : ab y.1 * x.2.1 * z.2.1 = ab y.1 * z.2.1 * x.2.1 := by ac_rfl
  have e2 : ab x.1 * y.2.1 * z.2.1 = ab x.1 * z.2.1 * y.2.1 := by ac_rfl
  have e3 : ab z.1 * y.2.1 * x.2.1 = ab z.1 * x.2.1 * y.2.1 := by ac_rfl
  rw [e1, e2] at k1
  rw [e3] at k2
  exact Int.le_of_mul_le_mul_right (Int.le_trans k1 k2) by'
def oD : Option Nat → D | none => .non | some i => .int (i : Nat)
def MaxOk (n : Int) (ss : List Sg) (i : Nat) : Option Nat → Prop
  | none => ∀ j s, j < i → ss[j]? = some s → ¬ ab s.2.2 < n
  | some k => ∃ sk, ss[k]? = some sk ∧ ab sk.2.2 < n ∧ ∀ j s, j < i → ss[j]? = some s → ab s.2.2 < n → amLe s sk
def MinOk (n : Int) (ss : List Sg) (i : Nat) : Option Nat → Prop
  | none => ∀ j s, j < i → ss[j]? = some s → ab s.2.2 < n
  | some k => ∃ sk, ss[k]? = some sk ∧ ¬ ab sk.2.2 < n ∧ ∀ j s, j < i → ss[j]? = some s → ¬ ab s.2.2 < n → amLe sk s
section
variable {n : Int} {ss : List Sg} {i k : Nat} {s sk : Sg}
theorem am_refl (x : Sg) : amLe x x := Int.le_refl _
theorem mx_skip (h : ss[i]? = some s) (hn : ¬ ab s.2.2 < n) {a : Option Nat} (ha : MaxOk n ss i a) : MaxOk n ss (i + 1) a := by
  cases a with
  | none =>
    intro j x hj hx
    by_cases e : j = i
    · subst e
      rw [h] at hx
      cases hx
      exact hn
    · exact ha j x (by omega) hx
  | some k =>
    obtain ⟨sk, h1, h2, h3⟩ := ha
    refine ⟨sk, h1, h2, fun j x hj hx hr => ?_⟩
    by_cases e : j = i
    · subst e
      rw [h] at hx
      cases hx
      exact absurd hr hn
    · exact h3 j x (by omega) hx hr
theorem mx_new (h : ss[i]? = some s) (hn : ab s.2.2 < n) (ha : MaxOk n ss i none) : MaxOk n ss (i + 1) (some i) := by
  refine ⟨s, h, hn, fun j x hj hx hr => ?_⟩
  by_cases e : j = i
  · subst e
    rw [h] at hx
    cases hx
    exact am_refl s
  · exact absurd hr (ha j x (by omega) hx)
theorem mx_keep (h : ss[i]? = some s) (hk : ss[k]? = some sk) (hle : amLe s sk) (ha : MaxOk n ss i (some k)) : MaxOk n ss (i + 1) (some k) := by
  obtain ⟨sk', h1, h2, h3⟩ := ha
  rw [hk] at h1
  cases h1
  refine ⟨sk, hk, h2, fun j x hj hx hr => ?_⟩
  by_cases e : j = i
  · subst e
    rw [h] at hx
    cases hx
    exact hle
  · exact h3 j x (by omega) hx hr
theorem mx_up (ok : ∀ s ∈ ss, SgOk s) (h : ss[i]? = some s) (hn : ab s.2.2 < n) (hk : ss[k]? = some sk) (hle : ¬ amLe s sk) (ha : MaxOk n ss i (some k)) : MaxOk n ss (i + 1) (some i) := by
  obtain ⟨sk', h1, h2, h3⟩ := ha
  rw [hk] at h1
  cases h1
  have le := (am_tot s sk).resolve_left hle
  refine ⟨s, h, hn, fun j x hj hx hr => ?_⟩
  by_cases e : j = i
  · subst e
    rw [h] at hx
    cases hx
    exact am_refl s
  · exact am_trans (ok _ (List.mem_of_getElem? hx)) (ok _ (List.mem_of_getElem? hk)) (ok _ (List.mem_of_getElem? h)) (h3 j x (by omega) hx hr) le
theorem mn_skip (h : ss[i]? = some s) (hn : ab s.2.2 < n) {a : Option Nat} (ha : MinOk n ss i a) : MinOk n ss (i + 1) a := by
  cases a with
  | none =>
    intro j x hj hx
    by_cases e : j = i
    · subst e
      rw [h] at hx
      cases hx
      exact hn
    · exact ha j x (by omega) hx
  | some k =>
    obtain ⟨sk, h1, h2, h3⟩ := ha
    refine ⟨sk, h1, h2, fun j x hj hx hr => ?_⟩
    by_cases e : j = i
    · subst e
      rw [h] at hx
      cases hx
      exact absurd hn hr
    · exact h3 j x (by omega) hx hr
theorem mn_new (h : ss[i]? = some s) (hn : ¬ ab s.2.2 < n) (ha : MinOk n ss i none) : MinOk n ss (i + 1) (some i) := by
  refine ⟨s, h, hn, fun j x hj hx hr => ?_⟩
  by_cases e : j = i
  · subst e
    rw [h] at hx
    cases hx
    exact am_refl s
  · exact absurd (ha j x (by omega) hx) hr
theorem mn_keep (h : ss[i]? = some s) (hk : ss[k]? = some sk) (hle : amLe sk s) (ha : MinOk n ss i (some k)) : MinOk n ss (i + 1) (some k) := by
  obtain ⟨sk', h1, h2, h3⟩ := ha
  rw [hk] at h1
  cases h1
  refine ⟨sk, hk, h2, fun j x hj hx hr => ?_⟩
  by_cases e : j = i
  · subst e
    rw [h] at hx
    cases hx
    exact hle
  · exact h3 j x (by omega) hx hr
theorem mn_up (ok : ∀ s ∈ ss, SgOk s) (h : ss[i]? = some s) (hn : ¬ ab s.2.2 < n) (hk : ss[k]? = some sk) (hle : ¬ amLe sk s) (ha : MinOk n ss i (some k)) : MinOk n ss (i + 1) (some i) := by
  obtain ⟨sk', h1, h2, h3⟩ := ha
  rw [hk] at h1
  cases h1
  have le := (am_tot sk s).resolve_left hle
  refine ⟨s, h, hn, fun j x hj hx hr => ?_⟩
  by_cases e : j = i
  · subst e
    rw [h] at hx
    cases hx
    exact am_refl s
  · exact am_trans (ok _ (List.mem_of_getElem? h)) (ok _ (List.mem_of_getElem? hk)) (ok _ (List.mem_of_getElem? hx)) le (h3 j x (by omega) hx hr)
end
def fs_edges (K : PySem.W.Frag) : FS := fun cs q _ => ∃ d ss n, cs = [.dat d, .dat (.int n)] ∧ ToldD d (sgs ss) ∧ (∀ s ∈ ss, SgOk s) ∧ ∀ a m, MaxOk n ss ss.length a → MinOk n ss ss.length m → q (.tup [oD a, oD m]) cs
theorem am_cm {x y : Sg} (hx : SgOk x) (hy : SgOk y) : CMulA (ab x.1) y.2.1 := cmul_w (ab_sz hx.2.1) hy.2.2.1 (by decide) (by decide) (by decide)
theorem l1_edges_ok {d : D} {ss : List Sg} {n : Int} {E : EndsD} (hd : ToldD d (sgs ss)) (ok : ∀ s ∈ ss, SgOk s)
    (hn : ∀ a m c4 c5 c6, MaxOk n ss ss.length a → MinOk n ss ss.length m → E.nx [.dat d, .dat (.int n), .dat (oD a), .dat (oD m), c4, c5, c6]) : l1_edges K E [.dat d, .dat (.int n), .dat .non, .dat .non, .any, .any, .any] := by
  have hs := told_seq hd
  unfold l1_edges wFor
  simp only [wAsg2, wTold2, wEnumB, wListOfOwn, wRetOwnG, dcOf, wIsiT, offE, D.adr.injEq, Cont.pool.injEq, ixN31, ne_eq, List.map_cons, List.map_nil, wRaise0, wRaise1, wFrz, wEnumT, wDict0, wDict1, numD3, Nat.reduceAdd, atI0, atI1, atI2, atI3, atI4, ixN51, ixN52, ixN53, List.length_map, scal, V.int.injEq, V.str.injEq, V.bl.injEq, wSq, wNext, wBreak, wDrop, wRet, wIfS, wAsg, wPar, wLstOwn, wAppend, wSetOwn, wIxOwn, wPeek, wRetFr, wFor, wB, wNot, wAnd, wOr, wAndV, wOrV, wNotV, wChain, wNil, wCons, wCB, wTup, wLst, wNoPart, wPart, wSlT, wSeq, wRng1, wRng2, wZip, wName, wNilT, wConsT, wTupT, wYes, wNeg, wVar, wC, wOp, wcNil, wcCons, wcOwn, wCall, wCallOwn, slots, cellsOf, OwnArgs, putBack, g2I, g2IC, gLen, gAbs, gGcd, gInt1, gTupleOf, gListOf, gIx, gCatT, gCat, gEq, gNe, gIsN, gNotN, scD, seqD_t, seqD_l, seqD_f, isNonD, List.nodup_cons, List.mem_cons, List.not_mem_nil, or_false, not_false_eq_true, Nat.reduceEqDiff, L3.Keeps, ends, wipeD, List.replicate, List.cons_append, List.nil_append, List.append_nil, List.getElem?_cons_zero, List.getElem?_cons_succ, List.set_cons_zero, List.set_cons_succ, List.getD_cons_zero, List.getD_cons_succ, List.length_cons, List.length_nil, List.nodup_nil, Option.some.injEq, Cell.dat.injEq, Cell.own.injEq, Cont.lst.injEq, D.bl.injEq, D.int.injEq, D.str.injEq, D.tup.injEq, D.lst.injEq, Arg.d.injEq, List.cons.injEq, exists_and_left, exists_and_right, exists_eq_left', exists_eq_left, exists_eq_right, exists_eq_right', exists_eq, exists_eq', and_true, true_and, and_assoc, and_self, exists_const, reduceCtorEq, web_wE, web_pE, webD_inj]
  refine ⟨sgs ss, by rcases hd with rfl | rfl <;> simp, fun i τ => ∃ a m c4 c5 c6, τ = [.dat d, .dat (.int n), .dat (oD a), .dat (oD m), c4, c5, c6] ∧ MaxOk n ss i a ∧ MinOk n ss i m, ⟨none, none, _, _, _, rfl, fun j s h => absurd h (Nat.not_lt_zero _), fun j s h => absurd h (Nat.not_lt_zero _)⟩, ?_, ?_⟩
  · rintro i x τ2 hi ⟨a, m, c4, c5, c6, rfl, ha, hm⟩
    rw [List.getElem?_mapIdx] at hi
    obtain ⟨y, ey, rfl⟩ := Option.map_eq_some_iff.mp hi
    rw [List.getElem?_map] at ey
    obtain ⟨⟨t, b, r⟩, es, rfl⟩ := Option.map_eq_some_iff.mp ey
    have oks := ok _ (List.mem_of_getElem? es)
    have ak : ∀ {k : Nat} {sk : Sg}, ss[k]? = some sk → atI (sgs ss) ((k : Nat) : Int) = some (sgT sk) := fun {k sk} h => atI_nat' (by rw [List.getElem?_map, h]; rfl)
    have ea : (if r < 0 then -r else r) = ab r := rfl
    have lt1 : ∀ {p : Prop} [Decidable p], decide p = true → p := fun h => of_decide_eq_true h
    have ny : ∀ {p : Prop} [Decidable p], (!decide p) = true → ¬ p := fun h => by simpa using h
    have ye : ∀ {p : Prop} [Decidable p], (!decide p) = false → p := fun h => by simpa using h
    rcases a with _ | k <;> rcases m with _ | l
    · simp only [fs_amount, fs_at_most, seqD_t, atI0, atI1, oD, isNonD, ea, hs, wAsg2, wTold2, wEnumB, wListOfOwn, wRetOwnG, dcOf, wIsiT, offE, D.adr.injEq, Cont.pool.injEq, ixN31, ne_eq, List.map_cons, List.map_nil, wRaise0, wRaise1, wFrz, wEnumT, wDict0, wDict1, numD3, Nat.reduceAdd, atI0, atI1, atI2, atI3, atI4, ixN51, ixN52, ixN53, List.length_map, scal, V.int.injEq, V.str.injEq, V.bl.injEq, wSq, wNext, wBreak, wDrop, wRet, wIfS, wAsg, wPar, wLstOwn, wAppend, wSetOwn, wIxOwn, wPeek, wRetFr, wFor, wB, wNot, wAnd, wOr, wAndV, wOrV, wNotV, wChain, wNil, wCons, wCB, wTup, wLst, wNoPart, wPart, wSlT, wSeq, wRng1, wRng2, wZip, wName, wNilT, wConsT, wTupT, wYes, wNeg, wVar, wC, wOp, wcNil, wcCons, wcOwn, wCall, wCallOwn, slots, cellsOf, OwnArgs, putBack, g2I, g2IC, gLen, gAbs, gGcd, gInt1, gTupleOf, gListOf, gIx, gCatT, gCat, gEq, gNe, gIsN, gNotN, scD, seqD_t, seqD_l, seqD_f, isNonD, List.nodup_cons, List.mem_cons, List.not_mem_nil, or_false, not_false_eq_true, Nat.reduceEqDiff, L3.Keeps, ends, wipeD, List.replicate, List.cons_append, List.nil_append, List.append_nil, List.getElem?_cons_zero, List.getElem?_cons_succ, List.set_cons_zero, List.set_cons_succ, List.getD_cons_zero, List.getD_cons_succ, List.length_cons, List.length_nil, List.nodup_nil, Option.some.injEq, Cell.dat.injEq, Cell.own.injEq, Cont.lst.injEq, D.bl.injEq, D.int.injEq, D.str.injEq, D.tup.injEq, D.lst.injEq, Arg.d.injEq, List.cons.injEq, exists_and_left, exists_and_right, exists_eq_left', exists_eq_left, exists_eq_right, exists_eq_right', exists_eq, exists_eq', and_true, true_and, and_assoc, and_self, exists_const, reduceCtorEq, web_wE, web_pE, webD_inj]
      exact ⟨fun z => ⟨fun f => f.elim, fun _ => ⟨fun _ => ⟨some i, rfl, none, rfl, mx_new es (of_decide_eq_true z) ha, mn_skip es (of_decide_eq_true z) hm⟩, fun f => f.elim⟩⟩, fun z => ⟨fun f => f.elim, fun _ => ⟨fun _ => ⟨none, rfl, some i, rfl, mx_skip es (of_decide_eq_false z) ha, mn_new es (of_decide_eq_false z) hm⟩, fun f => f.elim⟩⟩⟩
    · obtain ⟨sl, hl, rl, ll⟩ := id hm
      have al := ak hl
      have okl := ok _ (List.mem_of_getElem? hl)
      simp only [fs_amount, fs_at_most, seqD_t, atI0, atI1, oD, isNonD, ea, hs, al, wAsg2, wTold2, wEnumB, wListOfOwn, wRetOwnG, dcOf, wIsiT, offE, D.adr.injEq, Cont.pool.injEq, ixN31, ne_eq, List.map_cons, List.map_nil, wRaise0, wRaise1, wFrz, wEnumT, wDict0, wDict1, numD3, Nat.reduceAdd, atI0, atI1, atI2, atI3, atI4, ixN51, ixN52, ixN53, List.length_map, scal, V.int.injEq, V.str.injEq, V.bl.injEq, wSq, wNext, wBreak, wDrop, wRet, wIfS, wAsg, wPar, wLstOwn, wAppend, wSetOwn, wIxOwn, wPeek, wRetFr, wFor, wB, wNot, wAnd, wOr, wAndV, wOrV, wNotV, wChain, wNil, wCons, wCB, wTup, wLst, wNoPart, wPart, wSlT, wSeq, wRng1, wRng2, wZip, wName, wNilT, wConsT, wTupT, wYes, wNeg, wVar, wC, wOp, wcNil, wcCons, wcOwn, wCall, wCallOwn, slots, cellsOf, OwnArgs, putBack, g2I, g2IC, gLen, gAbs, gGcd, gInt1, gTupleOf, gListOf, gIx, gCatT, gCat, gEq, gNe, gIsN, gNotN, scD, seqD_t, seqD_l, seqD_f, isNonD, List.nodup_cons, List.mem_cons, List.not_mem_nil, or_false, not_false_eq_true, Nat.reduceEqDiff, L3.Keeps, ends, wipeD, List.replicate, List.cons_append, List.nil_append, List.append_nil, List.getElem?_cons_zero, List.getElem?_cons_succ, List.set_cons_zero, List.set_cons_succ, List.getD_cons_zero, List.getD_cons_succ, List.length_cons, List.length_nil, List.nodup_nil, Option.some.injEq, Cell.dat.injEq, Cell.own.injEq, Cont.lst.injEq, D.bl.injEq, D.int.injEq, D.str.injEq, D.tup.injEq, D.lst.injEq, Arg.d.injEq, List.cons.injEq, exists_and_left, exists_and_right, exists_eq_left', exists_eq_left, exists_eq_right, exists_eq_right', exists_eq, exists_eq', and_true, true_and, and_assoc, and_self, exists_const, reduceCtorEq, web_wE, web_pE, webD_inj]
      exact ⟨fun z => ⟨fun f => f.elim, fun _ => ⟨fun _ => ⟨some i, rfl, some l, rfl, mx_new es (of_decide_eq_true z) ha, mn_skip es (of_decide_eq_true z) hm⟩, fun f => f.elim⟩⟩, fun z => ⟨fun _ => ⟨am_cm okl oks, am_cm oks okl, fun y => ⟨none, rfl, some i, rfl, mx_skip es (of_decide_eq_false z) ha, mn_up ok es (of_decide_eq_false z) hl (ny y) hm⟩, fun y => ⟨none, rfl, some l, rfl, mx_skip es (of_decide_eq_false z) ha, mn_keep es hl (ye y) hm⟩⟩, fun f => f.elim⟩⟩
    · obtain ⟨sk, hk, rk, lk⟩ := id ha
      have ak' := ak hk
      have okk := ok _ (List.mem_of_getElem? hk)
      simp only [fs_amount, fs_at_most, seqD_t, atI0, atI1, oD, isNonD, ea, hs, ak', wAsg2, wTold2, wEnumB, wListOfOwn, wRetOwnG, dcOf, wIsiT, offE, D.adr.injEq, Cont.pool.injEq, ixN31, ne_eq, List.map_cons, List.map_nil, wRaise0, wRaise1, wFrz, wEnumT, wDict0, wDict1, numD3, Nat.reduceAdd, atI0, atI1, atI2, atI3, atI4, ixN51, ixN52, ixN53, List.length_map, scal, V.int.injEq, V.str.injEq, V.bl.injEq, wSq, wNext, wBreak, wDrop, wRet, wIfS, wAsg, wPar, wLstOwn, wAppend, wSetOwn, wIxOwn, wPeek, wRetFr, wFor, wB, wNot, wAnd, wOr, wAndV, wOrV, wNotV, wChain, wNil, wCons, wCB, wTup, wLst, wNoPart, wPart, wSlT, wSeq, wRng1, wRng2, wZip, wName, wNilT, wConsT, wTupT, wYes, wNeg, wVar, wC, wOp, wcNil, wcCons, wcOwn, wCall, wCallOwn, slots, cellsOf, OwnArgs, putBack, g2I, g2IC, gLen, gAbs, gGcd, gInt1, gTupleOf, gListOf, gIx, gCatT, gCat, gEq, gNe, gIsN, gNotN, scD, seqD_t, seqD_l, seqD_f, isNonD, List.nodup_cons, List.mem_cons, List.not_mem_nil, or_false, not_false_eq_true, Nat.reduceEqDiff, L3.Keeps, ends, wipeD, List.replicate, List.cons_append, List.nil_append, List.append_nil, List.getElem?_cons_zero, List.getElem?_cons_succ, List.set_cons_zero, List.set_cons_succ, List.getD_cons_zero, List.getD_cons_succ, List.length_cons, List.length_nil, List.nodup_nil, Option.some.injEq, Cell.dat.injEq, Cell.own.injEq, Cont.lst.injEq, D.bl.injEq, D.int.injEq, D.str.injEq, D.tup.injEq, D.lst.injEq, Arg.d.injEq, List.cons.injEq, exists_and_left, exists_and_right, exists_eq_left', exists_eq_left, exists_eq_right, exists_eq_right', exists_eq, exists_eq', and_true, true_and, and_assoc, and_self, exists_const, reduceCtorEq, web_wE, web_pE, webD_inj]
      exact ⟨fun z => ⟨fun _ => ⟨am_cm oks okk, am_cm okk oks, fun y => ⟨some i, rfl, none, rfl, mx_up ok es (of_decide_eq_true z) hk (ny y) ha, mn_skip es (of_decide_eq_true z) hm⟩, fun y => ⟨some k, rfl, none, rfl, mx_keep es hk (ye y) ha, mn_skip es (of_decide_eq_true z) hm⟩⟩, fun f => f.elim⟩, fun z => ⟨fun f => f.elim, fun _ => ⟨fun _ => ⟨some k, rfl, some i, rfl, mx_skip es (of_decide_eq_false z) ha, mn_new es (of_decide_eq_false z) hm⟩, fun f => f.elim⟩⟩⟩
    · obtain ⟨sl, hl, rl, ll⟩ := id hm
      have al := ak hl
      have okl := ok _ (List.mem_of_getElem? hl)
      obtain ⟨sk, hk, rk, lk⟩ := id ha
      have ak' := ak hk
      have okk := ok _ (List.mem_of_getElem? hk)
      simp only [fs_amount, fs_at_most, seqD_t, atI0, atI1, oD, isNonD, ea, hs, al, ak', wAsg2, wTold2, wEnumB, wListOfOwn, wRetOwnG, dcOf, wIsiT, offE, D.adr.injEq, Cont.pool.injEq, ixN31, ne_eq, List.map_cons, List.map_nil, wRaise0, wRaise1, wFrz, wEnumT, wDict0, wDict1, numD3, Nat.reduceAdd, atI0, atI1, atI2, atI3, atI4, ixN51, ixN52, ixN53, List.length_map, scal, V.int.injEq, V.str.injEq, V.bl.injEq, wSq, wNext, wBreak, wDrop, wRet, wIfS, wAsg, wPar, wLstOwn, wAppend, wSetOwn, wIxOwn, wPeek, wRetFr, wFor, wB, wNot, wAnd, wOr, wAndV, wOrV, wNotV, wChain, wNil, wCons, wCB, wTup, wLst, wNoPart, wPart, wSlT, wSeq, wRng1, wRng2, wZip, wName, wNilT, wConsT, wTupT, wYes, wNeg, wVar, wC, wOp, wcNil, wcCons, wcOwn, wCall, wCallOwn, slots, cellsOf, OwnArgs, putBack, g2I, g2IC, gLen, gAbs, gGcd, gInt1, gTupleOf, gListOf, gIx, gCatT, gCat, gEq, gNe, gIsN, gNotN, scD, seqD_t, seqD_l, seqD_f, isNonD, List.nodup_cons, List.mem_cons, List.not_mem_nil, or_false, not_false_eq_true, Nat.reduceEqDiff, L3.Keeps, ends, wipeD, List.replicate, List.cons_append, List.nil_append, List.append_nil, List.getElem?_cons_zero, List.getElem?_cons_succ, List.set_cons_zero, List.set_cons_succ, List.getD_cons_zero, List.getD_cons_succ, List.length_cons, List.length_nil, List.nodup_nil, Option.some.injEq, Cell.dat.injEq, Cell.own.injEq, Cont.lst.injEq, D.bl.injEq, D.int.injEq, D.str.injEq, D.tup.injEq, D.lst.injEq, Arg.d.injEq, List.cons.injEq, exists_and_left, exists_and_right, exists_eq_left', exists_eq_left, exists_eq_right, exists_eq_right', exists_eq, exists_eq', and_true, true_and, and_assoc, and_self, exists_const, reduceCtorEq, web_wE, web_pE, webD_inj]
      exact ⟨fun z => ⟨fun _ => ⟨am_cm oks okk, am_cm okk oks, fun y => ⟨some i, rfl, some l, rfl, mx_up ok es (of_decide_eq_true z) hk (ny y) ha, mn_skip es (of_decide_eq_true z) hm⟩, fun y => ⟨some k, rfl, some l, rfl, mx_keep es hk (ye y) ha, mn_skip es (of_decide_eq_true z) hm⟩⟩, fun f => f.elim⟩, fun z => ⟨fun _ => ⟨am_cm okl oks, am_cm oks okl, fun y => ⟨some k, rfl, some i, rfl, mx_skip es (of_decide_eq_false z) ha, mn_up ok es (of_decide_eq_false z) hl (ny y) hm⟩, fun y => ⟨some k, rfl, some l, rfl, mx_skip es (of_decide_eq_false z) ha, mn_keep es hl (ye y) hm⟩⟩, fun f => f.elim⟩⟩
  · rintro τ2 ⟨a, m, c4, c5, c6, rfl, ha, hm⟩
    rw [List.length_mapIdx, List.length_map] at ha hm
    exact hn a m _ _ _ ha hm
theorem pure_edges : PureD 2 5 (fs_edges K) (w_edges K) := by
  rintro cs q e - ⟨d, ss, n, rfl, hd, ok, hq⟩
  simp only [w_edges, wAsg2, wTold2, wEnumB, wListOfOwn, wRetOwnG, dcOf, wIsiT, offE, D.adr.injEq, Cont.pool.injEq, ixN31, ne_eq, List.map_cons, List.map_nil, wRaise0, wRaise1, wFrz, wEnumT, wDict0, wDict1, numD3, Nat.reduceAdd, atI0, atI1, atI2, atI3, atI4, ixN51, ixN52, ixN53, List.length_map, scal, V.int.injEq, V.str.injEq, V.bl.injEq, wSq, wNext, wBreak, wDrop, wRet, wIfS, wAsg, wPar, wLstOwn, wAppend, wSetOwn, wIxOwn, wPeek, wRetFr, wFor, wB, wNot, wAnd, wOr, wAndV, wOrV, wNotV, wChain, wNil, wCons, wCB, wTup, wLst, wNoPart, wPart, wSlT, wSeq, wRng1, wRng2, wZip, wName, wNilT, wConsT, wTupT, wYes, wNeg, wVar, wC, wOp, wcNil, wcCons, wcOwn, wCall, wCallOwn, slots, cellsOf, OwnArgs, putBack, g2I, g2IC, gLen, gAbs, gGcd, gInt1, gTupleOf, gListOf, gIx, gCatT, gCat, gEq, gNe, gIsN, gNotN, scD, seqD_t, seqD_l, seqD_f, isNonD, List.nodup_cons, List.mem_cons, List.not_mem_nil, or_false, not_false_eq_true, Nat.reduceEqDiff, L3.Keeps, ends, wipeD, List.replicate, List.cons_append, List.nil_append, List.append_nil, List.getElem?_cons_zero, List.getElem?_cons_succ, List.set_cons_zero, List.set_cons_succ, List.getD_cons_zero, List.getD_cons_succ, List.length_cons, List.length_nil, List.nodup_nil, Option.some.injEq, Cell.dat.injEq, Cell.own.injEq, Cont.lst.injEq, D.bl.injEq, D.int.injEq, D.str.injEq, D.tup.injEq, D.lst.injEq, Arg.d.injEq, List.cons.injEq, exists_and_left, exists_and_right, exists_eq_left', exists_eq_left, exists_eq_right, exists_eq_right', exists_eq, exists_eq', and_true, true_and, and_assoc, and_self, exists_const, reduceCtorEq, web_wE, web_pE, webD_inj]
  refine l1_edges_ok hd ok fun a m c4 c5 c6 ha hm => ?_
  simp only [wAsg2, wTold2, wEnumB, wListOfOwn, wRetOwnG, dcOf, wIsiT, offE, D.adr.injEq, Cont.pool.injEq, ixN31, ne_eq, List.map_cons, List.map_nil, wRaise0, wRaise1, wFrz, wEnumT, wDict0, wDict1, numD3, Nat.reduceAdd, atI0, atI1, atI2, atI3, atI4, ixN51, ixN52, ixN53, List.length_map, scal, V.int.injEq, V.str.injEq, V.bl.injEq, wSq, wNext, wBreak, wDrop, wRet, wIfS, wAsg, wPar, wLstOwn, wAppend, wSetOwn, wIxOwn, wPeek, wRetFr, wFor, wB, wNot, wAnd, wOr, wAndV, wOrV, wNotV, wChain, wNil, wCons, wCB, wTup, wLst, wNoPart, wPart, wSlT, wSeq, wRng1, wRng2, wZip, wName, wNilT, wConsT, wTupT, wYes, wNeg, wVar, wC, wOp, wcNil, wcCons, wcOwn, wCall, wCallOwn, slots, cellsOf, OwnArgs, putBack, g2I, g2IC, gLen, gAbs, gGcd, gInt1, gTupleOf, gListOf, gIx, gCatT, gCat, gEq, gNe, gIsN, gNotN, scD, seqD_t, seqD_l, seqD_f, isNonD, List.nodup_cons, List.mem_cons, List.not_mem_nil, or_false, not_false_eq_true, Nat.reduceEqDiff, L3.Keeps, ends, wipeD, List.replicate, List.cons_append, List.nil_append, List.append_nil, List.getElem?_cons_zero, List.getElem?_cons_succ, List.set_cons_zero, List.set_cons_succ, List.getD_cons_zero, List.getD_cons_succ, List.length_cons, List.length_nil, List.nodup_nil, Option.some.injEq, Cell.dat.injEq, Cell.own.injEq, Cont.lst.injEq, D.bl.injEq, D.int.injEq, D.str.injEq, D.tup.injEq, D.lst.injEq, Arg.d.injEq, List.cons.injEq, exists_and_left, exists_and_right, exists_eq_left', exists_eq_left, exists_eq_right, exists_eq_right', exists_eq, exists_eq', and_true, true_and, and_assoc, and_self, exists_const, reduceCtorEq, web_wE, web_pE, webD_inj]
  exact ⟨by decide, hq a m ha hm⟩
theorem ok_edges (T : Txt K mg) : FnOk P w K mg base (L2.CX P w) 2 T.f_edges T.fd_edges ["told", "number"] (spOf K 2 (fs_edges K)) := by
  refine def_ok T.F_edges sc_edges (wb := w_edges K) pure_edges ?_
  intro cdv A outer s H E hr tk
  exact ⟨_, (pss_cons (ps_two pe_non (pg_name (i := 2) sc_edges.nd rfl (by first | exact Or.inl rfl | exact Or.inr rfl)) (pg_name (i := 3) sc_edges.nd rfl (by first | exact Or.inl rfl | exact Or.inr rfl)))
      (pss_cons (ps_for (passes_of rfl) rfl (pi_enumB (by rfl) T.z_enumerate (pa_cons (pv 0) pa_nil)) (pg_tup (by rfl) (pgs_cons (pg_name (i := 4) sc_edges.nd rfl (by first | exact Or.inl rfl | exact Or.inr rfl)) (pgs_cons (pg_tup (by rfl) (pgs_cons (pg_name (i := 5) sc_edges.nd rfl (by first | exact Or.inl rfl | exact Or.inr rfl)) (pgs_cons (pg_name (i := 6) sc_edges.nd rfl (by first | exact Or.inl rfl | exact Or.inr rfl)) pgs_nil))) pgs_nil)))
        (pss_one (ps_if (pt_cmpR op_lt (pe_callB call_abs (by rfl) T.z_abs (by decide +kernel) (pa_cons (pv 6) pa_nil)) (pv 1) (nomark _))
        (pss_one (ps_if (PW.pt (pw_or (pt_cmpR op_isN (pv 2) pe_non (nomark _)) (pw_or1 (pt_not (pt_val (pe_callS (ok_at_most T) (hr.mono (by decide)) rfl T.g_at_most T.k_at_most T.b_at_most (fun σ => passAt tk σ) (pa_cons (pe_callS (ok_amount T) (hr.mono (by decide)) rfl T.g_amount T.k_amount T.b_amount (fun σ => passAt tk σ) (pa_cons (pv 5) pa_nil)) (pa_cons (pe_callS (ok_amount T) (hr.mono (by decide)) rfl T.g_amount T.k_amount T.b_amount (fun σ => passAt tk σ) (pa_cons (pe_ix ix_seq (pe_ix ix_seq (pv 0) (pv 2) (fun _ _ => rfl)) pe_int (fun _ _ => rfl)) pa_nil)) pa_nil))))))))
        (pss_one (ps_set (i := 2) sc_edges.nd rfl (by first | exact Or.inl rfl | exact Or.inr rfl) (pv 4)))
        pss_nil))
        (pss_one (ps_if (PW.pt (pw_or (pt_cmpR op_isN (pv 3) pe_non (nomark _)) (pw_or1 (pt_not (pt_val (pe_callS (ok_at_most T) (hr.mono (by decide)) rfl T.g_at_most T.k_at_most T.b_at_most (fun σ => passAt tk σ) (pa_cons (pe_callS (ok_amount T) (hr.mono (by decide)) rfl T.g_amount T.k_amount T.b_amount (fun σ => passAt tk σ) (pa_cons (pe_ix ix_seq (pe_ix ix_seq (pv 0) (pv 3) (fun _ _ => rfl)) pe_int (fun _ _ => rfl)) pa_nil)) (pa_cons (pe_callS (ok_amount T) (hr.mono (by decide)) rfl T.g_amount T.k_amount T.b_amount (fun σ => passAt tk σ) (pa_cons (pv 5) pa_nil)) pa_nil))))))))
        (pss_one (ps_set (i := 3) sc_edges.nd rfl (by first | exact Or.inl rfl | exact Or.inr rfl) (pv 4)))
        pss_nil)))))
      (pss_one (ps_ret (pe_tup (pa_cons (pv 2) (pa_cons (pv 3) pa_nil))))))),
    (ds_seq (ds_asg2 de_non (dg_name 2) (dg_name 3))
      (ds_seq (ds_for (wI := (wEnumB (wCons (wVar 0) wNil))) (wg := (wTupT 2 (wConsT (wName 4) (wConsT (wTupT 2 (wConsT (wName 5) (wConsT (wName 6) wNilT))) wNilT)))) (wb := (wIfS (wB (wOp gLtI (wCB gAbs (wCons (wVar 6) wNil)) (wVar 1))) (wIfS (wOr (wB (wOp gIsN (wVar 2) (wC .non))) (wNot (wB (wCall 2 (fs_at_most K) (wcCons (wCall 1 (fs_amount K) (wcCons (wVar 5) wcNil)) (wcCons (wCall 1 (fs_amount K) (wcCons (wOp gIx (wOp gIx (wVar 0) (wVar 2)) (wC (.int 0))) wcNil)) wcNil)))))) (wAsg (wVar 4) (wName 2)) wNext) (wIfS (wOr (wB (wOp gIsN (wVar 3) (wC .non))) (wNot (wB (wCall 2 (fs_at_most K) (wcCons (wCall 1 (fs_amount K) (wcCons (wOp gIx (wOp gIx (wVar 0) (wVar 3)) (wC (.int 0))) wcNil)) (wcCons (wCall 1 (fs_amount K) (wcCons (wVar 5) wcNil)) wcNil)))))) (wAsg (wVar 4) (wName 3)) wNext))) (di_enumB (da_cons (de_var 0) da_nil)) (dg_tup (n := 2) (dgs_cons (dg_name 4) (dgs_cons (dg_tup (n := 2) (dgs_cons (dg_name 5) (dgs_cons (dg_name 6) dgs_nil))) dgs_nil))) (ds_if (dt_B (de_op o_lt (de_cb o_abs (da_cons (de_var 6) da_nil)) (de_var 1))) (ds_if (dt_or (dt_B (de_op o_isN (de_var 2) de_non)) (dt_not (dt_B (de_call (n := 2) (fs := fs_at_most K) (dac_cons (de_call (n := 1) (fs := fs_amount K) (dac_cons (de_var 5) dac_nil)) (dac_cons (de_call (n := 1) (fs := fs_amount K) (dac_cons (de_op o_ix (de_op o_ix (de_var 0) (de_var 2)) de_int) dac_nil)) dac_nil)))))) (ds_asg (de_var 4) (dg_name 2)) ds_nil) (ds_if (dt_or (dt_B (de_op o_isN (de_var 3) de_non)) (dt_not (dt_B (de_call (n := 2) (fs := fs_at_most K) (dac_cons (de_call (n := 1) (fs := fs_amount K) (dac_cons (de_op o_ix (de_op o_ix (de_var 0) (de_var 3)) de_int) dac_nil)) (dac_cons (de_call (n := 1) (fs := fs_amount K) (dac_cons (de_var 5) dac_nil)) dac_nil)))))) (ds_asg (de_var 4) (dg_name 3)) ds_nil)))
      (ds_ret (de_tup (da_cons (de_var 2) (da_cons (de_var 3) da_nil))))))⟩
abbrev s_clash_of : Stmt := topS 33
theorem sc_clash_of : FnScope ["told", "many", "index", "sight", "number", "above", "most"] ["told", "many"] (defScope s_clash_of) := ⟨rfl, rfl, rfl, by decide +kernel, rfl, by decide +kernel, by decide +kernel⟩
def l1_clash_of (K : PySem.W.Frag) : SW := wFor (wEnumB (wCons (wVar 0) wNil)) (wTupT 2 (wConsT (wName 2) (wConsT (wName 3) wNilT))) (wIfS (wB (wCall 2 (fs_bars_alone K) (wcCons (wVar 1) (wcCons (wVar 3) wcNil)))) (wRet (wTup (wCons (wVar 2) wNil))) wNext)
def l2_clash_of (K : PySem.W.Frag) : SW := wFor (wRng2 (wCons (wC (.int 1)) (wCons (wOp gAddI (wVar 1) (wC (.int 1))) wNil))) (wName 4) (wSq (wAsg (wCall 2 (fs_edges K) (wcCons (wVar 0) (wcCons (wVar 4) wcNil))) (wTupT 2 (wConsT (wName 5) (wConsT (wName 6) wNilT))))
  (wIfS (wAnd (wB (wOp gNotN (wVar 5) (wC .non))) (wAnd (wB (wOp gNotN (wVar 6) (wC .non))) (wB (wCall 2 (fs_at_most K) (wcCons (wCall 1 (fs_amount K) (wcCons (wOp gIx (wOp gIx (wVar 0) (wVar 6)) (wC (.int 0))) wcNil)) (wcCons (wCall 1 (fs_amount K) (wcCons (wOp gIx (wOp gIx (wVar 0) (wVar 5)) (wC (.int 0))) wcNil)) wcNil)))))) (wRet (wTup (wCons (wVar 5) (wCons (wVar 6) wNil)))) wNext))
def w_clash_of (K : PySem.W.Frag) : SW := (wSq (l1_clash_of K)
  (wSq (l2_clash_of K)
  (wRet (wC .non))))
/-- the sights clash: one alone, or two at some number -/
def ClashP (m : Int) (ss : List Sg) : Prop := (∃ s ∈ ss, barP m s) ∨ ∃ n : Int, 1 ≤ n ∧ n ≤ m ∧ ∃ x ∈ ss, ∃ y ∈ ss, ab x.2.2 < n ∧ ¬ ab y.2.2 < n ∧ amLe y x
def fs_clash_of (K : PySem.W.Frag) : FS := fun cs q _ => ∃ d ss m, cs = [.dat d, .dat (.int m)] ∧ ToldD d (sgs ss) ∧ (∀ s ∈ ss, SgOk s) ∧ 1 ≤ m ∧ m ≤ 6 ∧ (∀ ds, ClashP m ss → q (.tup ds) cs) ∧ (¬ ClashP m ss → q .non cs)
section
variable {d : D} {ss : List Sg} {m : Int} {E : EndsD} {c2 c3 c4 c5 c6 : Cell}
theorem l1_clash_of_ok (hd : ToldD d (sgs ss)) (ok : ∀ s ∈ ss, SgOk s) (hn : (∀ s ∈ ss, ¬ barP m s) → ∀ c2 c3, E.nx [.dat d, .dat (.int m), c2, c3, c4, c5, c6]) (hr : (∃ s ∈ ss, barP m s) → ∀ ds c2 c3, E.rt (.tup ds) [.dat d, .dat (.int m), c2, c3, c4, c5, c6]) :
    l1_clash_of K E [.dat d, .dat (.int m), c2, c3, c4, c5, c6] := by
  unfold l1_clash_of wFor
  simp only [fs_bars_alone, wAsg2, wTold2, wEnumB, wListOfOwn, wRetOwnG, dcOf, wIsiT, offE, D.adr.injEq, Cont.pool.injEq, ixN31, ne_eq, List.map_cons, List.map_nil, wRaise0, wRaise1, wFrz, wEnumT, wDict0, wDict1, numD3, Nat.reduceAdd, atI0, atI1, atI2, atI3, atI4, ixN51, ixN52, ixN53, List.length_map, scal, V.int.injEq, V.str.injEq, V.bl.injEq, wSq, wNext, wBreak, wDrop, wRet, wIfS, wAsg, wPar, wLstOwn, wAppend, wSetOwn, wIxOwn, wPeek, wRetFr, wFor, wB, wNot, wAnd, wOr, wAndV, wOrV, wNotV, wChain, wNil, wCons, wCB, wTup, wLst, wNoPart, wPart, wSlT, wSeq, wRng1, wRng2, wZip, wName, wNilT, wConsT, wTupT, wYes, wNeg, wVar, wC, wOp, wcNil, wcCons, wcOwn, wCall, wCallOwn, slots, cellsOf, OwnArgs, putBack, g2I, g2IC, gLen, gAbs, gGcd, gInt1, gTupleOf, gListOf, gIx, gCatT, gCat, gEq, gNe, gIsN, gNotN, scD, seqD_t, seqD_l, seqD_f, isNonD, List.nodup_cons, List.mem_cons, List.not_mem_nil, or_false, not_false_eq_true, Nat.reduceEqDiff, L3.Keeps, ends, wipeD, List.replicate, List.cons_append, List.nil_append, List.append_nil, List.getElem?_cons_zero, List.getElem?_cons_succ, List.set_cons_zero, List.set_cons_succ, List.getD_cons_zero, List.getD_cons_succ, List.length_cons, List.length_nil, List.nodup_nil, Option.some.injEq, Cell.dat.injEq, Cell.own.injEq, Cont.lst.injEq, D.bl.injEq, D.int.injEq, D.str.injEq, D.tup.injEq, D.lst.injEq, Arg.d.injEq, List.cons.injEq, exists_and_left, exists_and_right, exists_eq_left', exists_eq_left, exists_eq_right, exists_eq_right', exists_eq, exists_eq', and_true, true_and, and_assoc, and_self, exists_const, reduceCtorEq, web_wE, web_pE, webD_inj]
  refine ⟨sgs ss, by rcases hd with rfl | rfl <;> simp, fun i τ => ∃ c2 c3, τ = [.dat d, .dat (.int m), c2, c3, c4, c5, c6] ∧ ∀ j s, j < i → ss[j]? = some s → ¬ barP m s, ⟨_, _, rfl, fun j s h => absurd h (Nat.not_lt_zero _)⟩, ?_, ?_⟩
  · rintro i x τ2 hi ⟨c2, c3, rfl, hk⟩
    rw [List.getElem?_mapIdx] at hi
    obtain ⟨y, ey, rfl⟩ := Option.map_eq_some_iff.mp hi
    rw [List.getElem?_map] at ey
    obtain ⟨s, es, rfl⟩ := Option.map_eq_some_iff.mp ey
    have ms := List.mem_of_getElem? es
    simp only [fs_bars_alone, wAsg2, wTold2, wEnumB, wListOfOwn, wRetOwnG, dcOf, wIsiT, offE, D.adr.injEq, Cont.pool.injEq, ixN31, ne_eq, List.map_cons, List.map_nil, wRaise0, wRaise1, wFrz, wEnumT, wDict0, wDict1, numD3, Nat.reduceAdd, atI0, atI1, atI2, atI3, atI4, ixN51, ixN52, ixN53, List.length_map, scal, V.int.injEq, V.str.injEq, V.bl.injEq, wSq, wNext, wBreak, wDrop, wRet, wIfS, wAsg, wPar, wLstOwn, wAppend, wSetOwn, wIxOwn, wPeek, wRetFr, wFor, wB, wNot, wAnd, wOr, wAndV, wOrV, wNotV, wChain, wNil, wCons, wCB, wTup, wLst, wNoPart, wPart, wSlT, wSeq, wRng1, wRng2, wZip, wName, wNilT, wConsT, wTupT, wYes, wNeg, wVar, wC, wOp, wcNil, wcCons, wcOwn, wCall, wCallOwn, slots, cellsOf, OwnArgs, putBack, g2I, g2IC, gLen, gAbs, gGcd, gInt1, gTupleOf, gListOf, gIx, gCatT, gCat, gEq, gNe, gIsN, gNotN, scD, seqD_t, seqD_l, seqD_f, isNonD, List.nodup_cons, List.mem_cons, List.not_mem_nil, or_false, not_false_eq_true, Nat.reduceEqDiff, L3.Keeps, ends, wipeD, List.replicate, List.cons_append, List.nil_append, List.append_nil, List.getElem?_cons_zero, List.getElem?_cons_succ, List.set_cons_zero, List.set_cons_succ, List.getD_cons_zero, List.getD_cons_succ, List.length_cons, List.length_nil, List.nodup_nil, Option.some.injEq, Cell.dat.injEq, Cell.own.injEq, Cont.lst.injEq, D.bl.injEq, D.int.injEq, D.str.injEq, D.tup.injEq, D.lst.injEq, Arg.d.injEq, List.cons.injEq, exists_and_left, exists_and_right, exists_eq_left', exists_eq_left, exists_eq_right, exists_eq_right', exists_eq, exists_eq', and_true, true_and, and_assoc, and_self, exists_const, reduceCtorEq, web_wE, web_pE, webD_inj]
    refine ⟨s, rfl, rfl, rfl, ok s ms, fun b hb => ⟨fun z => ⟨by decide, hr ⟨s, ms, hb.mp z⟩ _ _ _⟩, fun z j s' hj es' => ?_⟩⟩
    by_cases e : j = i
    · subst e
      rw [es] at es'
      cases es'
      intro h
      rw [hb.mpr h] at z
      cases z
    · exact hk j s' (by omega) es'
  · rintro τ2 ⟨c2, c3, rfl, hk⟩
    rw [List.length_mapIdx, List.length_map] at hk
    refine hn (fun s hs => ?_) _ _
    obtain ⟨j, ej⟩ := List.getElem?_of_mem hs
    exact hk j s (List.getElem?_eq_some_iff.mp ej).1 ej
theorem l2_clash_of_ok (hd : ToldD d (sgs ss)) (ok : ∀ s ∈ ss, SgOk s) (h1 : 1 ≤ m) (hm : m ≤ 6) (hn : (¬ ∃ n : Int, 1 ≤ n ∧ n ≤ m ∧ ∃ x ∈ ss, ∃ y ∈ ss, ab x.2.2 < n ∧ ¬ ab y.2.2 < n ∧ amLe y x) → ∀ c4 c5 c6, E.nx [.dat d, .dat (.int m), c2, c3, c4, c5, c6]) (hr : (∃ n : Int, 1 ≤ n ∧ n ≤ m ∧ ∃ x ∈ ss, ∃ y ∈ ss, ab x.2.2 < n ∧ ¬ ab y.2.2 < n ∧ amLe y x) → ∀ ds c4 c5 c6, E.rt (.tup ds) [.dat d, .dat (.int m), c2, c3, c4, c5, c6]) :
    l2_clash_of K E [.dat d, .dat (.int m), c2, c3, c4, c5, c6] := by
  have hs := told_seq hd
  unfold l2_clash_of wFor
  simp only [wAsg2, wTold2, wEnumB, wListOfOwn, wRetOwnG, dcOf, wIsiT, offE, D.adr.injEq, Cont.pool.injEq, ixN31, ne_eq, List.map_cons, List.map_nil, wRaise0, wRaise1, wFrz, wEnumT, wDict0, wDict1, numD3, Nat.reduceAdd, atI0, atI1, atI2, atI3, atI4, ixN51, ixN52, ixN53, List.length_map, scal, V.int.injEq, V.str.injEq, V.bl.injEq, wSq, wNext, wBreak, wDrop, wRet, wIfS, wAsg, wPar, wLstOwn, wAppend, wSetOwn, wIxOwn, wPeek, wRetFr, wFor, wB, wNot, wAnd, wOr, wAndV, wOrV, wNotV, wChain, wNil, wCons, wCB, wTup, wLst, wNoPart, wPart, wSlT, wSeq, wRng1, wRng2, wZip, wName, wNilT, wConsT, wTupT, wYes, wNeg, wVar, wC, wOp, wcNil, wcCons, wcOwn, wCall, wCallOwn, slots, cellsOf, OwnArgs, putBack, g2I, g2IC, gLen, gAbs, gGcd, gInt1, gTupleOf, gListOf, gIx, gCatT, gCat, gEq, gNe, gIsN, gNotN, scD, seqD_t, seqD_l, seqD_f, isNonD, List.nodup_cons, List.mem_cons, List.not_mem_nil, or_false, not_false_eq_true, Nat.reduceEqDiff, L3.Keeps, ends, wipeD, List.replicate, List.cons_append, List.nil_append, List.append_nil, List.getElem?_cons_zero, List.getElem?_cons_succ, List.set_cons_zero, List.set_cons_succ, List.getD_cons_zero, List.getD_cons_succ, List.length_cons, List.length_nil, List.nodup_nil, Option.some.injEq, Cell.dat.injEq, Cell.own.injEq, Cont.lst.injEq, D.bl.injEq, D.int.injEq, D.str.injEq, D.tup.injEq, D.lst.injEq, Arg.d.injEq, List.cons.injEq, exists_and_left, exists_and_right, exists_eq_left', exists_eq_left, exists_eq_right, exists_eq_right', exists_eq, exists_eq', and_true, true_and, and_assoc, and_self, exists_const, reduceCtorEq, web_wE, web_pE, webD_inj]
  refine ⟨by omega, by omega, by omega, by omega, fun i τ => ∃ c4 c5 c6, τ = [.dat d, .dat (.int m), c2, c3, c4, c5, c6] ∧ ∀ n : Int, 1 ≤ n → n < 1 + i → ¬ ∃ x ∈ ss, ∃ y ∈ ss, ab x.2.2 < n ∧ ¬ ab y.2.2 < n ∧ amLe y x, ⟨_, _, _, rfl, fun n h1 h2 => absurd h2 (by omega)⟩, ?_, ?_⟩
  · rintro i x τ2 hi ⟨c4, c5, c6, rfl, hk⟩
    have hlt := (List.getElem?_eq_some_iff.mp hi).1
    rw [rangeD_length] at hlt
    rw [rangeD_get (by omega)] at hi
    cases hi
    simp only [fs_edges, wAsg2, wTold2, wEnumB, wListOfOwn, wRetOwnG, dcOf, wIsiT, offE, D.adr.injEq, Cont.pool.injEq, ixN31, ne_eq, List.map_cons, List.map_nil, wRaise0, wRaise1, wFrz, wEnumT, wDict0, wDict1, numD3, Nat.reduceAdd, atI0, atI1, atI2, atI3, atI4, ixN51, ixN52, ixN53, List.length_map, scal, V.int.injEq, V.str.injEq, V.bl.injEq, wSq, wNext, wBreak, wDrop, wRet, wIfS, wAsg, wPar, wLstOwn, wAppend, wSetOwn, wIxOwn, wPeek, wRetFr, wFor, wB, wNot, wAnd, wOr, wAndV, wOrV, wNotV, wChain, wNil, wCons, wCB, wTup, wLst, wNoPart, wPart, wSlT, wSeq, wRng1, wRng2, wZip, wName, wNilT, wConsT, wTupT, wYes, wNeg, wVar, wC, wOp, wcNil, wcCons, wcOwn, wCall, wCallOwn, slots, cellsOf, OwnArgs, putBack, g2I, g2IC, gLen, gAbs, gGcd, gInt1, gTupleOf, gListOf, gIx, gCatT, gCat, gEq, gNe, gIsN, gNotN, scD, seqD_t, seqD_l, seqD_f, isNonD, List.nodup_cons, List.mem_cons, List.not_mem_nil, or_false, not_false_eq_true, Nat.reduceEqDiff, L3.Keeps, ends, wipeD, List.replicate, List.cons_append, List.nil_append, List.append_nil, List.getElem?_cons_zero, List.getElem?_cons_succ, List.set_cons_zero, List.set_cons_succ, List.getD_cons_zero, List.getD_cons_succ, List.length_cons, List.length_nil, List.nodup_nil, Option.some.injEq, Cell.dat.injEq, Cell.own.injEq, Cont.lst.injEq, D.bl.injEq, D.int.injEq, D.str.injEq, D.tup.injEq, D.lst.injEq, Arg.d.injEq, List.cons.injEq, exists_and_left, exists_and_right, exists_eq_left', exists_eq_left, exists_eq_right, exists_eq_right', exists_eq, exists_eq', and_true, true_and, and_assoc, and_self, exists_const, reduceCtorEq, web_wE, web_pE, webD_inj]
    refine ⟨ss, hd, ok, fun a mm ha hmm => ?_⟩
    have ak : ∀ {k : Nat} {sk : Sg}, ss[k]? = some sk → atI (sgs ss) ((k : Nat) : Int) = some (sgT sk) := fun {k sk} h => atI_nat' (by rw [List.getElem?_map, h]; rfl)
    have nxt : (¬ ∃ x ∈ ss, ∃ y ∈ ss, ab x.2.2 < 1 + (i : Int) ∧ ¬ ab y.2.2 < 1 + (i : Int) ∧ amLe y x) → ∀ n : Int, 1 ≤ n → n < 1 + ((i + 1 : Nat) : Int) → ¬ ∃ x ∈ ss, ∃ y ∈ ss, ab x.2.2 < n ∧ ¬ ab y.2.2 < n ∧ amLe y x := fun hno n n1 n2 => by
      by_cases e : n < 1 + (i : Int)
      · exact hk n n1 e
      · have : n = 1 + (i : Int) := by omega
        rw [this]
        exact hno
    rcases a with _ | k
    · have no := nxt fun ⟨x, hx, y, hy, h1, h2, h3⟩ => by
        obtain ⟨j, ej⟩ := List.getElem?_of_mem hx
        exact ha j x (List.getElem?_eq_some_iff.mp ej).1 ej h1
      simp only [oD, isNonD, wAsg2, wTold2, wEnumB, wListOfOwn, wRetOwnG, dcOf, wIsiT, offE, D.adr.injEq, Cont.pool.injEq, ixN31, ne_eq, List.map_cons, List.map_nil, wRaise0, wRaise1, wFrz, wEnumT, wDict0, wDict1, numD3, Nat.reduceAdd, atI0, atI1, atI2, atI3, atI4, ixN51, ixN52, ixN53, List.length_map, scal, V.int.injEq, V.str.injEq, V.bl.injEq, wSq, wNext, wBreak, wDrop, wRet, wIfS, wAsg, wPar, wLstOwn, wAppend, wSetOwn, wIxOwn, wPeek, wRetFr, wFor, wB, wNot, wAnd, wOr, wAndV, wOrV, wNotV, wChain, wNil, wCons, wCB, wTup, wLst, wNoPart, wPart, wSlT, wSeq, wRng1, wRng2, wZip, wName, wNilT, wConsT, wTupT, wYes, wNeg, wVar, wC, wOp, wcNil, wcCons, wcOwn, wCall, wCallOwn, slots, cellsOf, OwnArgs, putBack, g2I, g2IC, gLen, gAbs, gGcd, gInt1, gTupleOf, gListOf, gIx, gCatT, gCat, gEq, gNe, gIsN, gNotN, scD, seqD_t, seqD_l, seqD_f, isNonD, List.nodup_cons, List.mem_cons, List.not_mem_nil, or_false, not_false_eq_true, Nat.reduceEqDiff, L3.Keeps, ends, wipeD, List.replicate, List.cons_append, List.nil_append, List.append_nil, List.getElem?_cons_zero, List.getElem?_cons_succ, List.set_cons_zero, List.set_cons_succ, List.getD_cons_zero, List.getD_cons_succ, List.length_cons, List.length_nil, List.nodup_nil, Option.some.injEq, Cell.dat.injEq, Cell.own.injEq, Cont.lst.injEq, D.bl.injEq, D.int.injEq, D.str.injEq, D.tup.injEq, D.lst.injEq, Arg.d.injEq, List.cons.injEq, exists_and_left, exists_and_right, exists_eq_left', exists_eq_left, exists_eq_right, exists_eq_right', exists_eq, exists_eq', and_true, true_and, and_assoc, and_self, exists_const, reduceCtorEq, web_wE, web_pE, webD_inj]
      exact ⟨fun z => (nomatch z), fun _ => ⟨fun f => f.elim, fun _ => no⟩⟩
    · rcases mm with _ | l
      · have no := nxt fun ⟨x, hx, y, hy, h1, h2, h3⟩ => by
          obtain ⟨j, ej⟩ := List.getElem?_of_mem hy
          exact h2 (hmm j y (List.getElem?_eq_some_iff.mp ej).1 ej)
        simp only [oD, isNonD, wAsg2, wTold2, wEnumB, wListOfOwn, wRetOwnG, dcOf, wIsiT, offE, D.adr.injEq, Cont.pool.injEq, ixN31, ne_eq, List.map_cons, List.map_nil, wRaise0, wRaise1, wFrz, wEnumT, wDict0, wDict1, numD3, Nat.reduceAdd, atI0, atI1, atI2, atI3, atI4, ixN51, ixN52, ixN53, List.length_map, scal, V.int.injEq, V.str.injEq, V.bl.injEq, wSq, wNext, wBreak, wDrop, wRet, wIfS, wAsg, wPar, wLstOwn, wAppend, wSetOwn, wIxOwn, wPeek, wRetFr, wFor, wB, wNot, wAnd, wOr, wAndV, wOrV, wNotV, wChain, wNil, wCons, wCB, wTup, wLst, wNoPart, wPart, wSlT, wSeq, wRng1, wRng2, wZip, wName, wNilT, wConsT, wTupT, wYes, wNeg, wVar, wC, wOp, wcNil, wcCons, wcOwn, wCall, wCallOwn, slots, cellsOf, OwnArgs, putBack, g2I, g2IC, gLen, gAbs, gGcd, gInt1, gTupleOf, gListOf, gIx, gCatT, gCat, gEq, gNe, gIsN, gNotN, scD, seqD_t, seqD_l, seqD_f, isNonD, List.nodup_cons, List.mem_cons, List.not_mem_nil, or_false, not_false_eq_true, Nat.reduceEqDiff, L3.Keeps, ends, wipeD, List.replicate, List.cons_append, List.nil_append, List.append_nil, List.getElem?_cons_zero, List.getElem?_cons_succ, List.set_cons_zero, List.set_cons_succ, List.getD_cons_zero, List.getD_cons_succ, List.length_cons, List.length_nil, List.nodup_nil, Option.some.injEq, Cell.dat.injEq, Cell.own.injEq, Cont.lst.injEq, D.bl.injEq, D.int.injEq, D.str.injEq, D.tup.injEq, D.lst.injEq, Arg.d.injEq, List.cons.injEq, exists_and_left, exists_and_right, exists_eq_left', exists_eq_left, exists_eq_right, exists_eq_right', exists_eq, exists_eq', and_true, true_and, and_assoc, and_self, exists_const, reduceCtorEq, web_wE, web_pE, webD_inj]
        exact ⟨fun _ => ⟨fun z => (nomatch z), fun _ => ⟨fun f => f.elim, fun _ => no⟩⟩, fun z => (nomatch z)⟩
      · obtain ⟨sk, hk', rk, lk⟩ := ha
        obtain ⟨sl, hl, rl, ll⟩ := hmm
        have ak1 := ak hk'
        have al := ak hl
        have mk := List.mem_of_getElem? hk'
        have ml := List.mem_of_getElem? hl
        have okk := ok _ mk
        have okl := ok _ ml
        simp only [fs_amount, fs_at_most, seqD_t, atI0, atI1, oD, isNonD, hs, ak1, al, wAsg2, wTold2, wEnumB, wListOfOwn, wRetOwnG, dcOf, wIsiT, offE, D.adr.injEq, Cont.pool.injEq, ixN31, ne_eq, List.map_cons, List.map_nil, wRaise0, wRaise1, wFrz, wEnumT, wDict0, wDict1, numD3, Nat.reduceAdd, atI0, atI1, atI2, atI3, atI4, ixN51, ixN52, ixN53, List.length_map, scal, V.int.injEq, V.str.injEq, V.bl.injEq, wSq, wNext, wBreak, wDrop, wRet, wIfS, wAsg, wPar, wLstOwn, wAppend, wSetOwn, wIxOwn, wPeek, wRetFr, wFor, wB, wNot, wAnd, wOr, wAndV, wOrV, wNotV, wChain, wNil, wCons, wCB, wTup, wLst, wNoPart, wPart, wSlT, wSeq, wRng1, wRng2, wZip, wName, wNilT, wConsT, wTupT, wYes, wNeg, wVar, wC, wOp, wcNil, wcCons, wcOwn, wCall, wCallOwn, slots, cellsOf, OwnArgs, putBack, g2I, g2IC, gLen, gAbs, gGcd, gInt1, gTupleOf, gListOf, gIx, gCatT, gCat, gEq, gNe, gIsN, gNotN, scD, seqD_t, seqD_l, seqD_f, isNonD, List.nodup_cons, List.mem_cons, List.not_mem_nil, or_false, not_false_eq_true, Nat.reduceEqDiff, L3.Keeps, ends, wipeD, List.replicate, List.cons_append, List.nil_append, List.append_nil, List.getElem?_cons_zero, List.getElem?_cons_succ, List.set_cons_zero, List.set_cons_succ, List.getD_cons_zero, List.getD_cons_succ, List.length_cons, List.length_nil, List.nodup_nil, Option.some.injEq, Cell.dat.injEq, Cell.own.injEq, Cont.lst.injEq, D.bl.injEq, D.int.injEq, D.str.injEq, D.tup.injEq, D.lst.injEq, Arg.d.injEq, List.cons.injEq, exists_and_left, exists_and_right, exists_eq_left', exists_eq_left, exists_eq_right, exists_eq_right', exists_eq, exists_eq', and_true, true_and, and_assoc, and_self, exists_const, reduceCtorEq, web_wE, web_pE, webD_inj]
        refine ⟨fun _ => ⟨fun _ => ⟨am_cm okl okk, am_cm okk okl, fun z => ⟨by decide, hr ⟨1 + i, by omega, by omega, sk, mk, sl, ml, rk, rl, of_decide_eq_true z⟩ _ _ _ _⟩, fun z => nxt fun ⟨x, hx, y, hy, h1, h2, h3⟩ => absurd ?_ (of_decide_eq_false z)⟩, fun z => (nomatch z)⟩, fun z => (nomatch z)⟩
        obtain ⟨j1, e1⟩ := List.getElem?_of_mem hx
        obtain ⟨j2, e2⟩ := List.getElem?_of_mem hy
        have q1 : amLe x sk := lk j1 x (List.getElem?_eq_some_iff.mp e1).1 e1 h1
        have q2 : amLe sl y := ll j2 y (List.getElem?_eq_some_iff.mp e2).1 e2 h2
        exact am_trans okl (ok x hx) okk (am_trans okl (ok y hy) (ok x hx) q2 h3) q1
  · rintro τ2 ⟨c4, c5, c6, rfl, hk⟩
    rw [rangeD_length] at hk
    refine hn (fun ⟨n, h1, h2, h3⟩ => hk n h1 (by omega) h3) _ _ _
end
theorem pure_clash_of : PureD 2 5 (fs_clash_of K) (w_clash_of K) := by
  rintro cs q e - ⟨d, ss, m, rfl, hd, ok, m1, hm, hq, hn⟩
  simp only [w_clash_of, wAsg2, wTold2, wEnumB, wListOfOwn, wRetOwnG, dcOf, wIsiT, offE, D.adr.injEq, Cont.pool.injEq, ixN31, ne_eq, List.map_cons, List.map_nil, wRaise0, wRaise1, wFrz, wEnumT, wDict0, wDict1, numD3, Nat.reduceAdd, atI0, atI1, atI2, atI3, atI4, ixN51, ixN52, ixN53, List.length_map, scal, V.int.injEq, V.str.injEq, V.bl.injEq, wSq, wNext, wBreak, wDrop, wRet, wIfS, wAsg, wPar, wLstOwn, wAppend, wSetOwn, wIxOwn, wPeek, wRetFr, wFor, wB, wNot, wAnd, wOr, wAndV, wOrV, wNotV, wChain, wNil, wCons, wCB, wTup, wLst, wNoPart, wPart, wSlT, wSeq, wRng1, wRng2, wZip, wName, wNilT, wConsT, wTupT, wYes, wNeg, wVar, wC, wOp, wcNil, wcCons, wcOwn, wCall, wCallOwn, slots, cellsOf, OwnArgs, putBack, g2I, g2IC, gLen, gAbs, gGcd, gInt1, gTupleOf, gListOf, gIx, gCatT, gCat, gEq, gNe, gIsN, gNotN, scD, seqD_t, seqD_l, seqD_f, isNonD, List.nodup_cons, List.mem_cons, List.not_mem_nil, or_false, not_false_eq_true, Nat.reduceEqDiff, L3.Keeps, ends, wipeD, List.replicate, List.cons_append, List.nil_append, List.append_nil, List.getElem?_cons_zero, List.getElem?_cons_succ, List.set_cons_zero, List.set_cons_succ, List.getD_cons_zero, List.getD_cons_succ, List.length_cons, List.length_nil, List.nodup_nil, Option.some.injEq, Cell.dat.injEq, Cell.own.injEq, Cont.lst.injEq, D.bl.injEq, D.int.injEq, D.str.injEq, D.tup.injEq, D.lst.injEq, Arg.d.injEq, List.cons.injEq, exists_and_left, exists_and_right, exists_eq_left', exists_eq_left, exists_eq_right, exists_eq_right', exists_eq, exists_eq', and_true, true_and, and_assoc, and_self, exists_const, reduceCtorEq, web_wE, web_pE, webD_inj]
  refine l1_clash_of_ok hd ok (fun h1 c2 c3 => ?_) fun h1 ds c2 c3 => ?_
  · refine l2_clash_of_ok hd ok m1 hm (fun h2 c4 c5 c6 => ?_) fun h2 ds c4 c5 c6 => ?_
    · simp only [wAsg2, wTold2, wEnumB, wListOfOwn, wRetOwnG, dcOf, wIsiT, offE, D.adr.injEq, Cont.pool.injEq, ixN31, ne_eq, List.map_cons, List.map_nil, wRaise0, wRaise1, wFrz, wEnumT, wDict0, wDict1, numD3, Nat.reduceAdd, atI0, atI1, atI2, atI3, atI4, ixN51, ixN52, ixN53, List.length_map, scal, V.int.injEq, V.str.injEq, V.bl.injEq, wSq, wNext, wBreak, wDrop, wRet, wIfS, wAsg, wPar, wLstOwn, wAppend, wSetOwn, wIxOwn, wPeek, wRetFr, wFor, wB, wNot, wAnd, wOr, wAndV, wOrV, wNotV, wChain, wNil, wCons, wCB, wTup, wLst, wNoPart, wPart, wSlT, wSeq, wRng1, wRng2, wZip, wName, wNilT, wConsT, wTupT, wYes, wNeg, wVar, wC, wOp, wcNil, wcCons, wcOwn, wCall, wCallOwn, slots, cellsOf, OwnArgs, putBack, g2I, g2IC, gLen, gAbs, gGcd, gInt1, gTupleOf, gListOf, gIx, gCatT, gCat, gEq, gNe, gIsN, gNotN, scD, seqD_t, seqD_l, seqD_f, isNonD, List.nodup_cons, List.mem_cons, List.not_mem_nil, or_false, not_false_eq_true, Nat.reduceEqDiff, L3.Keeps, ends, wipeD, List.replicate, List.cons_append, List.nil_append, List.append_nil, List.getElem?_cons_zero, List.getElem?_cons_succ, List.set_cons_zero, List.set_cons_succ, List.getD_cons_zero, List.getD_cons_succ, List.length_cons, List.length_nil, List.nodup_nil, Option.some.injEq, Cell.dat.injEq, Cell.own.injEq, Cont.lst.injEq, D.bl.injEq, D.int.injEq, D.str.injEq, D.tup.injEq, D.lst.injEq, Arg.d.injEq, List.cons.injEq, exists_and_left, exists_and_right, exists_eq_left', exists_eq_left, exists_eq_right, exists_eq_right', exists_eq, exists_eq', and_true, true_and, and_assoc, and_self, exists_const, reduceCtorEq, web_wE, web_pE, webD_inj]
      refine hn fun z => z.elim (fun ⟨s, hs, hb⟩ => h1 s hs hb) h2
    · simp only [wAsg2, wTold2, wEnumB, wListOfOwn, wRetOwnG, dcOf, wIsiT, offE, D.adr.injEq, Cont.pool.injEq, ixN31, ne_eq, List.map_cons, List.map_nil, wRaise0, wRaise1, wFrz, wEnumT, wDict0, wDict1, numD3, Nat.reduceAdd, atI0, atI1, atI2, atI3, atI4, ixN51, ixN52, ixN53, List.length_map, scal, V.int.injEq, V.str.injEq, V.bl.injEq, wSq, wNext, wBreak, wDrop, wRet, wIfS, wAsg, wPar, wLstOwn, wAppend, wSetOwn, wIxOwn, wPeek, wRetFr, wFor, wB, wNot, wAnd, wOr, wAndV, wOrV, wNotV, wChain, wNil, wCons, wCB, wTup, wLst, wNoPart, wPart, wSlT, wSeq, wRng1, wRng2, wZip, wName, wNilT, wConsT, wTupT, wYes, wNeg, wVar, wC, wOp, wcNil, wcCons, wcOwn, wCall, wCallOwn, slots, cellsOf, OwnArgs, putBack, g2I, g2IC, gLen, gAbs, gGcd, gInt1, gTupleOf, gListOf, gIx, gCatT, gCat, gEq, gNe, gIsN, gNotN, scD, seqD_t, seqD_l, seqD_f, isNonD, List.nodup_cons, List.mem_cons, List.not_mem_nil, or_false, not_false_eq_true, Nat.reduceEqDiff, L3.Keeps, ends, wipeD, List.replicate, List.cons_append, List.nil_append, List.append_nil, List.getElem?_cons_zero, List.getElem?_cons_succ, List.set_cons_zero, List.set_cons_succ, List.getD_cons_zero, List.getD_cons_succ, List.length_cons, List.length_nil, List.nodup_nil, Option.some.injEq, Cell.dat.injEq, Cell.own.injEq, Cont.lst.injEq, D.bl.injEq, D.int.injEq, D.str.injEq, D.tup.injEq, D.lst.injEq, Arg.d.injEq, List.cons.injEq, exists_and_left, exists_and_right, exists_eq_left', exists_eq_left, exists_eq_right, exists_eq_right', exists_eq, exists_eq', and_true, true_and, and_assoc, and_self, exists_const, reduceCtorEq, web_wE, web_pE, webD_inj]
      exact hq ds (.inr h2)
  · simp only [wAsg2, wTold2, wEnumB, wListOfOwn, wRetOwnG, dcOf, wIsiT, offE, D.adr.injEq, Cont.pool.injEq, ixN31, ne_eq, List.map_cons, List.map_nil, wRaise0, wRaise1, wFrz, wEnumT, wDict0, wDict1, numD3, Nat.reduceAdd, atI0, atI1, atI2, atI3, atI4, ixN51, ixN52, ixN53, List.length_map, scal, V.int.injEq, V.str.injEq, V.bl.injEq, wSq, wNext, wBreak, wDrop, wRet, wIfS, wAsg, wPar, wLstOwn, wAppend, wSetOwn, wIxOwn, wPeek, wRetFr, wFor, wB, wNot, wAnd, wOr, wAndV, wOrV, wNotV, wChain, wNil, wCons, wCB, wTup, wLst, wNoPart, wPart, wSlT, wSeq, wRng1, wRng2, wZip, wName, wNilT, wConsT, wTupT, wYes, wNeg, wVar, wC, wOp, wcNil, wcCons, wcOwn, wCall, wCallOwn, slots, cellsOf, OwnArgs, putBack, g2I, g2IC, gLen, gAbs, gGcd, gInt1, gTupleOf, gListOf, gIx, gCatT, gCat, gEq, gNe, gIsN, gNotN, scD, seqD_t, seqD_l, seqD_f, isNonD, List.nodup_cons, List.mem_cons, List.not_mem_nil, or_false, not_false_eq_true, Nat.reduceEqDiff, L3.Keeps, ends, wipeD, List.replicate, List.cons_append, List.nil_append, List.append_nil, List.getElem?_cons_zero, List.getElem?_cons_succ, List.set_cons_zero, List.set_cons_succ, List.getD_cons_zero, List.getD_cons_succ, List.length_cons, List.length_nil, List.nodup_nil, Option.some.injEq, Cell.dat.injEq, Cell.own.injEq, Cont.lst.injEq, D.bl.injEq, D.int.injEq, D.str.injEq, D.tup.injEq, D.lst.injEq, Arg.d.injEq, List.cons.injEq, exists_and_left, exists_and_right, exists_eq_left', exists_eq_left, exists_eq_right, exists_eq_right', exists_eq, exists_eq', and_true, true_and, and_assoc, and_self, exists_const, reduceCtorEq, web_wE, web_pE, webD_inj]
    exact hq ds (.inl h1)
theorem ok_clash_of (T : Txt K mg) : FnOk P w K mg base (L2.CX P w) 3 T.f_clash_of T.fd_clash_of ["told", "many"] (spOf K 2 (fs_clash_of K)) := by
  refine def_ok T.F_clash_of sc_clash_of (wb := w_clash_of K) pure_clash_of ?_
  intro cdv A outer s H E hr tk
  exact ⟨_, (pss_cons (ps_for (passes_of rfl) rfl (pi_enumB (by rfl) T.z_enumerate (pa_cons (pv 0) pa_nil)) (pg_tup (by rfl) (pgs_cons (pg_name (i := 2) sc_clash_of.nd rfl (by first | exact Or.inl rfl | exact Or.inr rfl)) (pgs_cons (pg_name (i := 3) sc_clash_of.nd rfl (by first | exact Or.inl rfl | exact Or.inr rfl)) pgs_nil)))
        (pss_one (ps_if (pt_val (pe_callS (ok_bars_alone T) (hr.mono (by decide)) rfl T.g_bars_alone T.k_bars_alone T.b_bars_alone (fun σ => passAt tk σ) (pa_cons (pv 1) (pa_cons (pv 3) pa_nil))))
        (pss_one (ps_ret (pe_tup (pa_cons (pv 2) pa_nil))))
        pss_nil)))
      (pss_cons (ps_for (passes_of rfl) rfl (pi_range2 (by rfl) T.z_range (pa_cons pe_int (pa_cons (pe_op op_add (pv 1) pe_int) pa_nil))) (pg_name (i := 4) sc_clash_of.nd rfl (by first | exact Or.inl rfl | exact Or.inr rfl))
        (pss_cons (ps_asg (pe_callS (ok_edges T) (hr.mono (by decide)) rfl T.g_edges T.k_edges T.b_edges (fun σ => passAt tk σ) (pa_cons (pv 0) (pa_cons (pv 4) pa_nil))) (pg_tup (by rfl) (pgs_cons (pg_name (i := 5) sc_clash_of.nd rfl (by first | exact Or.inl rfl | exact Or.inr rfl)) (pgs_cons (pg_name (i := 6) sc_clash_of.nd rfl (by first | exact Or.inl rfl | exact Or.inr rfl)) pgs_nil))))
      (pss_one (ps_if (PW.pt (pw_and (pt_cmpR op_notN (pv 5) pe_non (nomark _)) (pw_and (pt_cmpR op_notN (pv 6) pe_non (nomark _)) (pw_and1 (pt_val (pe_callS (ok_at_most T) (hr.mono (by decide)) rfl T.g_at_most T.k_at_most T.b_at_most (fun σ => passAt tk σ) (pa_cons (pe_callS (ok_amount T) (hr.mono (by decide)) rfl T.g_amount T.k_amount T.b_amount (fun σ => passAt tk σ) (pa_cons (pe_ix ix_seq (pe_ix ix_seq (pv 0) (pv 6) (fun _ _ => rfl)) pe_int (fun _ _ => rfl)) pa_nil)) (pa_cons (pe_callS (ok_amount T) (hr.mono (by decide)) rfl T.g_amount T.k_amount T.b_amount (fun σ => passAt tk σ) (pa_cons (pe_ix ix_seq (pe_ix ix_seq (pv 0) (pv 5) (fun _ _ => rfl)) pe_int (fun _ _ => rfl)) pa_nil)) pa_nil))))))))
        (pss_one (ps_ret (pe_tup (pa_cons (pv 5) (pa_cons (pv 6) pa_nil)))))
        pss_nil))))
      (pss_one (ps_ret pe_non)))),
    (ds_seq (ds_for (wI := (wEnumB (wCons (wVar 0) wNil))) (wg := (wTupT 2 (wConsT (wName 2) (wConsT (wName 3) wNilT)))) (wb := (wIfS (wB (wCall 2 (fs_bars_alone K) (wcCons (wVar 1) (wcCons (wVar 3) wcNil)))) (wRet (wTup (wCons (wVar 2) wNil))) wNext)) (di_enumB (da_cons (de_var 0) da_nil)) (dg_tup (n := 2) (dgs_cons (dg_name 2) (dgs_cons (dg_name 3) dgs_nil))) (ds_if (dt_B (de_call (n := 2) (fs := fs_bars_alone K) (dac_cons (de_var 1) (dac_cons (de_var 3) dac_nil)))) (ds_ret (de_tup (da_cons (de_var 2) da_nil))) ds_nil))
      (ds_seq (ds_for (wI := (wRng2 (wCons (wC (.int 1)) (wCons (wOp gAddI (wVar 1) (wC (.int 1))) wNil)))) (wg := (wName 4)) (wb := (wSq (wAsg (wCall 2 (fs_edges K) (wcCons (wVar 0) (wcCons (wVar 4) wcNil))) (wTupT 2 (wConsT (wName 5) (wConsT (wName 6) wNilT))))
  (wIfS (wAnd (wB (wOp gNotN (wVar 5) (wC .non))) (wAnd (wB (wOp gNotN (wVar 6) (wC .non))) (wB (wCall 2 (fs_at_most K) (wcCons (wCall 1 (fs_amount K) (wcCons (wOp gIx (wOp gIx (wVar 0) (wVar 6)) (wC (.int 0))) wcNil)) (wcCons (wCall 1 (fs_amount K) (wcCons (wOp gIx (wOp gIx (wVar 0) (wVar 5)) (wC (.int 0))) wcNil)) wcNil)))))) (wRet (wTup (wCons (wVar 5) (wCons (wVar 6) wNil)))) wNext))) (di_rng2 (da_cons de_int (da_cons (de_op o_add (de_var 1) de_int) da_nil))) (dg_name 4) (ds_seq (ds_asg (de_call (n := 2) (fs := fs_edges K) (dac_cons (de_var 0) (dac_cons (de_var 4) dac_nil))) (dg_tup (n := 2) (dgs_cons (dg_name 5) (dgs_cons (dg_name 6) dgs_nil))))
      (ds_if (dt_and (dt_B (de_op o_notN (de_var 5) de_non)) (dt_and (dt_B (de_op o_notN (de_var 6) de_non)) (dt_B (de_call (n := 2) (fs := fs_at_most K) (dac_cons (de_call (n := 1) (fs := fs_amount K) (dac_cons (de_op o_ix (de_op o_ix (de_var 0) (de_var 6)) de_int) dac_nil)) (dac_cons (de_call (n := 1) (fs := fs_amount K) (dac_cons (de_op o_ix (de_op o_ix (de_var 0) (de_var 5)) de_int) dac_nil)) dac_nil)))))) (ds_ret (de_tup (da_cons (de_var 5) (da_cons (de_var 6) da_nil)))) ds_nil)))
      (ds_ret de_non)))⟩
abbrev s_is_clash : Stmt := topS 34
theorem sc_is_clash : FnScope ["sights", "many", "thing", "index"] ["sights", "many", "thing"] (defScope s_is_clash) := ⟨rfl, rfl, rfl, by decide +kernel, rfl, by decide +kernel, by decide +kernel⟩
def c1_is_clash (K : PySem.W.Frag) (Z : CT) : EW := wLc (wSeq (wVar 2)) (wName 3) wYes (wCall 3 (fs_is_between K) (wcCons (wC (.int 0)) (wcCons (wOp gSubI (wCB gLen (wCons (wVar 0) wNil)) (wC (.int 1))) (wcCons (wVar 3) wcNil)))) [3]
def c2_is_clash (K : PySem.W.Frag) (Z : CT) : EW := wLc (wSeq (wVar 2)) (wName 3) wYes (wOp gIx (wVar 0) (wVar 3)) [3]
def w_is_clash (K : PySem.W.Frag) (Z : CT) : SW := (wSq (wDrop (wCall 2 (fs_check_sights K Z) (wcCons (wVar 0) (wcCons (wVar 1) wcNil))))
  (wSq (wIfS (wOr (wNot (wB (wCall 3 (fs_is_tuple_of K) (wcCons (wC (.int 1)) (wcCons (wC (.int 2)) (wcCons (wVar 2) wcNil)))))) (wNot (wB (wCB gAll (wCons (c1_is_clash K Z) wNil))))) (wRet (wC (.bl false))) wNext)
  (wSq (wIfS (wAnd (wB (wOp gEq (wCB gLen (wCons (wVar 2) wNil)) (wC (.int 2)))) (wB (wOp gEqD (wOp gIx (wVar 2) (wC (.int 0))) (wOp gIx (wVar 2) (wC (.int 1)))))) (wRet (wC (.bl false))) wNext)
  (wRet (wOp gNotN (wCall 2 (fs_clash_of K) (wcCons (c2_is_clash K Z) (wcCons (wVar 1) wcNil))) (wC .non))))))
/-- a tuple of one place or two, the places told by it -/
def ThV (n : Nat) (th : D) (is : List Nat) : Prop := th = .tup (is.map fun i => .int (i : Nat)) ∧ (is.length = 1 ∨ is.length = 2) ∧ (∀ i ∈ is, i < n) ∧ is.Nodup
def pkS (ss : List Sg) (is : List Nat) : List Sg := is.filterMap fun i => ss[i]?
def fs_is_clash (K : PySem.W.Frag) (Z : CT) : FS := fun cs q e => ∃ d es m th, cs = [.dat d, .dat m, .dat th] ∧ ToldD d es ∧ es.length ≤ 1000 ∧ 1 ≤ es.length ∧ (∀ x ∈ es, OkD K x) ∧ OkD K m ∧ OkD K th ∧
  (∀ i : Nat, i < es.length → (∃ x ∈ es, isSg x = false) → e ⟨Z.C_NoSights, [("index", .int i)]⟩ cs) ∧ ((∀ x ∈ es, isSg x = true) → isBetw 1 6 m = false → e ⟨Z.C_NoNumber, []⟩ cs) ∧
  ((∀ x ∈ es, isSg x = true) → isBetw 1 6 m = true → ∃ ss mm, es = sgs ss ∧ m = .int mm ∧ (∀ s ∈ ss, SgOk s) ∧ ∀ b : Bool, (b = true ↔ ∃ is, ThV ss.length th is ∧ ClashP mm (pkS ss is)) → q (.bl b) cs)
theorem gEqD_int {a b : Int} {q : D → Prop} (h : q (.bl (decide (a = b)))) : gEqD (.int a) (.int b) q := by
  refine ⟨.int a, .int b, rfl, rfl, rfl, rfl, ?_⟩
  have : PyData.eqv (.int a) (.int b) = decide (a = b) := by
    simp [PyData.eqv]
    rfl
  rw [this]
  exact h
theorem okT {th : D} {ts : List D} (h : OkD K th) (e : th = .tup ts) : ∀ x ∈ ts, OkD K x := fun x hx => by
  subst e
  exact okTup h hx
section
variable {Z : CT} {d m : D} {es ts : List D} {c3 : Cell} {q : D → List Cell → Prop} {e : Xn → List Cell → Prop}
theorem c1_is_clash_ok (hs : seqD d = some es) (hl : ts.length ≤ 2) (ht : ∀ x ∈ ts, OkD K x) (hq : ∀ c3, q (.lst (ts.map fun t => .bl (isBetw 0 ((es.length : Int) - 1) t))) [.dat d, .dat m, .dat (.tup ts), c3]) :
    c1_is_clash K Z [.dat d, .dat m, .dat (.tup ts), c3] q e := by
  unfold c1_is_clash wLc
  simp only [hs, fs_is_between, seqD_t, wAsg2, wTold2, wEnumB, wListOfOwn, wRetOwnG, dcOf, wIsiT, offE, D.adr.injEq, Cont.pool.injEq, ixN31, ne_eq, List.map_cons, List.map_nil, wRaise0, wRaise1, wFrz, wEnumT, wDict0, wDict1, numD3, Nat.reduceAdd, atI0, atI1, atI2, atI3, atI4, ixN51, ixN52, ixN53, List.length_map, scal, V.int.injEq, V.str.injEq, V.bl.injEq, wSq, wNext, wBreak, wDrop, wRet, wIfS, wAsg, wPar, wLstOwn, wAppend, wSetOwn, wIxOwn, wPeek, wRetFr, wFor, wB, wNot, wAnd, wOr, wAndV, wOrV, wNotV, wChain, wNil, wCons, wCB, wTup, wLst, wNoPart, wPart, wSlT, wSeq, wRng1, wRng2, wZip, wName, wNilT, wConsT, wTupT, wYes, wNeg, wVar, wC, wOp, wcNil, wcCons, wcOwn, wCall, wCallOwn, slots, cellsOf, OwnArgs, putBack, g2I, g2IC, gLen, gAbs, gGcd, gInt1, gTupleOf, gListOf, gIx, gCatT, gCat, gEq, gNe, gIsN, gNotN, scD, seqD_t, seqD_l, seqD_f, isNonD, List.nodup_cons, List.mem_cons, List.not_mem_nil, or_false, not_false_eq_true, Nat.reduceEqDiff, L3.Keeps, ends, wipeD, List.replicate, List.cons_append, List.nil_append, List.append_nil, List.getElem?_cons_zero, List.getElem?_cons_succ, List.set_cons_zero, List.set_cons_succ, List.getD_cons_zero, List.getD_cons_succ, List.length_cons, List.length_nil, List.nodup_nil, Option.some.injEq, Cell.dat.injEq, Cell.own.injEq, Cont.lst.injEq, D.bl.injEq, D.int.injEq, D.str.injEq, D.tup.injEq, D.lst.injEq, Arg.d.injEq, List.cons.injEq, exists_and_left, exists_and_right, exists_eq_left', exists_eq_left, exists_eq_right, exists_eq_right', exists_eq, exists_eq', and_true, true_and, and_assoc, and_self, exists_const, reduceCtorEq, web_wE, web_pE, webD_inj]
  refine ⟨by omega, fun i acc τ => τ = [.dat d, .dat m, .dat (.tup ts), .any] ∧ acc = (ts.take i).map fun t => .bl (isBetw 0 ((es.length : Int) - 1) t), ⟨rfl, rfl⟩, ?_, ?_⟩
  · rintro i x acc τ2 hi ⟨rfl, rfl⟩ -
    have tk : ts.take (i + 1) = ts.take i ++ [x] := by rw [List.take_add_one, hi]; rfl
    simp only [hs, fs_is_between, wAsg2, wTold2, wEnumB, wListOfOwn, wRetOwnG, dcOf, wIsiT, offE, D.adr.injEq, Cont.pool.injEq, ixN31, ne_eq, List.map_cons, List.map_nil, wRaise0, wRaise1, wFrz, wEnumT, wDict0, wDict1, numD3, Nat.reduceAdd, atI0, atI1, atI2, atI3, atI4, ixN51, ixN52, ixN53, List.length_map, scal, V.int.injEq, V.str.injEq, V.bl.injEq, wSq, wNext, wBreak, wDrop, wRet, wIfS, wAsg, wPar, wLstOwn, wAppend, wSetOwn, wIxOwn, wPeek, wRetFr, wFor, wB, wNot, wAnd, wOr, wAndV, wOrV, wNotV, wChain, wNil, wCons, wCB, wTup, wLst, wNoPart, wPart, wSlT, wSeq, wRng1, wRng2, wZip, wName, wNilT, wConsT, wTupT, wYes, wNeg, wVar, wC, wOp, wcNil, wcCons, wcOwn, wCall, wCallOwn, slots, cellsOf, OwnArgs, putBack, g2I, g2IC, gLen, gAbs, gGcd, gInt1, gTupleOf, gListOf, gIx, gCatT, gCat, gEq, gNe, gIsN, gNotN, scD, seqD_t, seqD_l, seqD_f, isNonD, List.nodup_cons, List.mem_cons, List.not_mem_nil, or_false, not_false_eq_true, Nat.reduceEqDiff, L3.Keeps, ends, wipeD, List.replicate, List.cons_append, List.nil_append, List.append_nil, List.getElem?_cons_zero, List.getElem?_cons_succ, List.set_cons_zero, List.set_cons_succ, List.getD_cons_zero, List.getD_cons_succ, List.length_cons, List.length_nil, List.nodup_nil, Option.some.injEq, Cell.dat.injEq, Cell.own.injEq, Cont.lst.injEq, D.bl.injEq, D.int.injEq, D.str.injEq, D.tup.injEq, D.lst.injEq, Arg.d.injEq, List.cons.injEq, exists_and_left, exists_and_right, exists_eq_left', exists_eq_left, exists_eq_right, exists_eq_right', exists_eq, exists_eq', and_true, true_and, and_assoc, and_self, exists_const, reduceCtorEq, web_wE, web_pE, webD_inj]
    refine ⟨fun _ => ⟨ht x (List.mem_of_getElem? hi), ?_⟩, fun z => z.elim⟩
    rw [tk, List.map_append]
    rfl
  · rintro acc τ2 ⟨h1, h2⟩ -
    rw [h1, h2, List.take_length]
    exact hq _
end
section
variable {Z : CT} {d m : D} {ss : List Sg} {is : List Nat} {c3 : Cell} {q : D → List Cell → Prop} {e : Xn → List Cell → Prop}
theorem pk_snoc {i k : Nat} {s : Sg} (h : is[i]? = some k) (hs : ss[k]? = some s) : pkS ss (is.take (i + 1)) = pkS ss (is.take i) ++ [s] := by
  unfold pkS
  rw [List.take_add_one, h]
  show List.filterMap _ (is.take i ++ [k]) = _
  rw [List.filterMap_append]
  simp [hs]
theorem c2_is_clash_ok (hs : seqD d = some (sgs ss)) (hl : is.length ≤ 2) (hi : ∀ i ∈ is, i < ss.length) (hq : ∀ c3, q (.lst (sgs (pkS ss is))) [.dat d, .dat m, .dat (.tup (is.map fun i => .int (i : Nat))), c3]) :
    c2_is_clash K Z [.dat d, .dat m, .dat (.tup (is.map fun i => .int (i : Nat))), c3] q e := by
  unfold c2_is_clash wLc
  simp only [hs, seqD_t, wAsg2, wTold2, wEnumB, wListOfOwn, wRetOwnG, dcOf, wIsiT, offE, D.adr.injEq, Cont.pool.injEq, ixN31, ne_eq, List.map_cons, List.map_nil, wRaise0, wRaise1, wFrz, wEnumT, wDict0, wDict1, numD3, Nat.reduceAdd, atI0, atI1, atI2, atI3, atI4, ixN51, ixN52, ixN53, List.length_map, scal, V.int.injEq, V.str.injEq, V.bl.injEq, wSq, wNext, wBreak, wDrop, wRet, wIfS, wAsg, wPar, wLstOwn, wAppend, wSetOwn, wIxOwn, wPeek, wRetFr, wFor, wB, wNot, wAnd, wOr, wAndV, wOrV, wNotV, wChain, wNil, wCons, wCB, wTup, wLst, wNoPart, wPart, wSlT, wSeq, wRng1, wRng2, wZip, wName, wNilT, wConsT, wTupT, wYes, wNeg, wVar, wC, wOp, wcNil, wcCons, wcOwn, wCall, wCallOwn, slots, cellsOf, OwnArgs, putBack, g2I, g2IC, gLen, gAbs, gGcd, gInt1, gTupleOf, gListOf, gIx, gCatT, gCat, gEq, gNe, gIsN, gNotN, scD, seqD_t, seqD_l, seqD_f, isNonD, List.nodup_cons, List.mem_cons, List.not_mem_nil, or_false, not_false_eq_true, Nat.reduceEqDiff, L3.Keeps, ends, wipeD, List.replicate, List.cons_append, List.nil_append, List.append_nil, List.getElem?_cons_zero, List.getElem?_cons_succ, List.set_cons_zero, List.set_cons_succ, List.getD_cons_zero, List.getD_cons_succ, List.length_cons, List.length_nil, List.nodup_nil, Option.some.injEq, Cell.dat.injEq, Cell.own.injEq, Cont.lst.injEq, D.bl.injEq, D.int.injEq, D.str.injEq, D.tup.injEq, D.lst.injEq, Arg.d.injEq, List.cons.injEq, exists_and_left, exists_and_right, exists_eq_left', exists_eq_left, exists_eq_right, exists_eq_right', exists_eq, exists_eq', and_true, true_and, and_assoc, and_self, exists_const, reduceCtorEq, web_wE, web_pE, webD_inj]
  refine ⟨by omega, fun i acc τ => τ = [.dat d, .dat m, .dat (.tup (is.map fun i => .int (i : Nat))), .any] ∧ acc = sgs (pkS ss (is.take i)), ⟨rfl, rfl⟩, ?_, ?_⟩
  · rintro i x acc τ2 hx ⟨rfl, rfl⟩ -
    rw [List.getElem?_map] at hx
    obtain ⟨k, ek, rfl⟩ := Option.map_eq_some_iff.mp hx
    have kl := hi k (List.mem_of_getElem? ek)
    have es : ss[k]? = some ss[k] := List.getElem?_eq_getElem kl
    have ak : atI (sgs ss) ((k : Nat) : Int) = some (sgT ss[k]) := atI_nat' (by rw [List.getElem?_map, es]; rfl)
    simp only [hs, ak, wAsg2, wTold2, wEnumB, wListOfOwn, wRetOwnG, dcOf, wIsiT, offE, D.adr.injEq, Cont.pool.injEq, ixN31, ne_eq, List.map_cons, List.map_nil, wRaise0, wRaise1, wFrz, wEnumT, wDict0, wDict1, numD3, Nat.reduceAdd, atI0, atI1, atI2, atI3, atI4, ixN51, ixN52, ixN53, List.length_map, scal, V.int.injEq, V.str.injEq, V.bl.injEq, wSq, wNext, wBreak, wDrop, wRet, wIfS, wAsg, wPar, wLstOwn, wAppend, wSetOwn, wIxOwn, wPeek, wRetFr, wFor, wB, wNot, wAnd, wOr, wAndV, wOrV, wNotV, wChain, wNil, wCons, wCB, wTup, wLst, wNoPart, wPart, wSlT, wSeq, wRng1, wRng2, wZip, wName, wNilT, wConsT, wTupT, wYes, wNeg, wVar, wC, wOp, wcNil, wcCons, wcOwn, wCall, wCallOwn, slots, cellsOf, OwnArgs, putBack, g2I, g2IC, gLen, gAbs, gGcd, gInt1, gTupleOf, gListOf, gIx, gCatT, gCat, gEq, gNe, gIsN, gNotN, scD, seqD_t, seqD_l, seqD_f, isNonD, List.nodup_cons, List.mem_cons, List.not_mem_nil, or_false, not_false_eq_true, Nat.reduceEqDiff, L3.Keeps, ends, wipeD, List.replicate, List.cons_append, List.nil_append, List.append_nil, List.getElem?_cons_zero, List.getElem?_cons_succ, List.set_cons_zero, List.set_cons_succ, List.getD_cons_zero, List.getD_cons_succ, List.length_cons, List.length_nil, List.nodup_nil, Option.some.injEq, Cell.dat.injEq, Cell.own.injEq, Cont.lst.injEq, D.bl.injEq, D.int.injEq, D.str.injEq, D.tup.injEq, D.lst.injEq, Arg.d.injEq, List.cons.injEq, exists_and_left, exists_and_right, exists_eq_left', exists_eq_left, exists_eq_right, exists_eq_right', exists_eq, exists_eq', and_true, true_and, and_assoc, and_self, exists_const, reduceCtorEq, web_wE, web_pE, webD_inj]
    refine ⟨fun _ => ?_, fun z => z.elim⟩
    rw [pk_snoc ek es]
    simp [sgs]
  · rintro acc τ2 ⟨h1, h2⟩ -
    rw [h1, h2]
    have : is.take is.length = is := List.take_length
    rw [this]
    exact hq _
end
theorem betw_nat {n : Nat} {ts : List D} (h : ∀ t ∈ ts, isBetw 0 ((n : Int) - 1) t = true) : ∃ is : List Nat, ts = is.map (fun i => D.int (i : Nat)) ∧ ∀ i ∈ is, i < n := by
  induction ts with
  | nil => exact ⟨[], rfl, fun i h => by cases h⟩
  | cons t r ih =>
    obtain ⟨is, rfl, h2⟩ := ih fun x hx => h x (List.mem_cons_of_mem _ hx)
    obtain ⟨i, rfl, i0, i1⟩ := betw_int (h t (by simp))
    obtain ⟨k, rfl⟩ := Int.eq_ofNat_of_zero_le i0
    refine ⟨k :: is, rfl, fun j hj => ?_⟩
    rcases List.mem_cons.mp hj with rfl | hj
    · omega
    · exact h2 j hj
theorem thV_is {n : Nat} {th : D} {is : List Nat} (h : ThV n th is) : isTupOf 1 2 th = true ∧ ∃ ts, th = .tup ts ∧ ∀ t ∈ ts, isBetw 0 ((n : Int) - 1) t = true := by
  obtain ⟨rfl, h1, h2, _⟩ := h
  refine ⟨?_, _, rfl, fun t ht => ?_⟩
  · show (decide _ && decide _) = true
    rw [List.length_map]
    simp
    omega
  · obtain ⟨i, hi, rfl⟩ := List.mem_map.mp ht
    have := h2 i hi
    simp [isBetw]
    omega
theorem ints_inj {is js : List Nat} (h : is.map (fun i => D.int (i : Nat)) = js.map (fun i => D.int (i : Nat))) : is = js := List.map_inj_right (fun a b z => by
  injection z with z
  omega) |>.mp h
theorem thV_eq {n : Nat} {th : D} {is js : List Nat} (h : ThV n th is) (h' : ThV n th js) : is = js := by
  have e := h.1.symm.trans h'.1
  injection e with e
  exact ints_inj e
theorem pk_ok {ss : List Sg} {is : List Nat} (ok : ∀ s ∈ ss, SgOk s) : ∀ s ∈ pkS ss is, SgOk s := fun s hs => by
  obtain ⟨i, _, e⟩ := List.mem_filterMap.mp hs
  exact ok s (List.mem_of_getElem? e)
theorem pure_is_clash {Z : CT} : PureD 3 1 (fs_is_clash K Z) (w_is_clash K Z) := by
  rintro cs q e - ⟨d, es, m, th, rfl, hd, hl, hl1, he, hm, ht, h1, h2, hq⟩
  simp only [w_is_clash, fs_check_sights, fs_is_tuple_of, ht, wAsg2, wTold2, wEnumB, wListOfOwn, wRetOwnG, dcOf, wIsiT, offE, D.adr.injEq, Cont.pool.injEq, ixN31, ne_eq, List.map_cons, List.map_nil, wRaise0, wRaise1, wFrz, wEnumT, wDict0, wDict1, numD3, Nat.reduceAdd, atI0, atI1, atI2, atI3, atI4, ixN51, ixN52, ixN53, List.length_map, scal, V.int.injEq, V.str.injEq, V.bl.injEq, wSq, wNext, wBreak, wDrop, wRet, wIfS, wAsg, wPar, wLstOwn, wAppend, wSetOwn, wIxOwn, wPeek, wRetFr, wFor, wB, wNot, wAnd, wOr, wAndV, wOrV, wNotV, wChain, wNil, wCons, wCB, wTup, wLst, wNoPart, wPart, wSlT, wSeq, wRng1, wRng2, wZip, wName, wNilT, wConsT, wTupT, wYes, wNeg, wVar, wC, wOp, wcNil, wcCons, wcOwn, wCall, wCallOwn, slots, cellsOf, OwnArgs, putBack, g2I, g2IC, gLen, gAbs, gGcd, gInt1, gTupleOf, gListOf, gIx, gCatT, gCat, gEq, gNe, gIsN, gNotN, scD, seqD_t, seqD_l, seqD_f, isNonD, List.nodup_cons, List.mem_cons, List.not_mem_nil, or_false, not_false_eq_true, Nat.reduceEqDiff, L3.Keeps, ends, wipeD, List.replicate, List.cons_append, List.nil_append, List.append_nil, List.getElem?_cons_zero, List.getElem?_cons_succ, List.set_cons_zero, List.set_cons_succ, List.getD_cons_zero, List.getD_cons_succ, List.length_cons, List.length_nil, List.nodup_nil, Option.some.injEq, Cell.dat.injEq, Cell.own.injEq, Cont.lst.injEq, D.bl.injEq, D.int.injEq, D.str.injEq, D.tup.injEq, D.lst.injEq, Arg.d.injEq, List.cons.injEq, exists_and_left, exists_and_right, exists_eq_left', exists_eq_left, exists_eq_right, exists_eq_right', exists_eq, exists_eq', and_true, true_and, and_assoc, and_self, exists_const, reduceCtorEq, web_wE, web_pE, webD_inj]
  refine ⟨es, hd, hl, he, hm, h1, h2, fun ha hb => ?_⟩
  obtain ⟨ss, mm, rfl, rfl, ok, hq⟩ := hq ha hb
  have hs := told_seq hd
  have ln : ((sgs ss).length : Int) = (ss.length : Int) := by rw [List.length_map]
  obtain ⟨_, e1, m1, m6⟩ := betw_int hb
  cases e1
  refine ⟨fun z => ?_, fun z => ⟨fun _ => hq false ⟨fun y => (nomatch y), fun ⟨is, hv, _⟩ => ?_⟩, fun f => f.elim⟩⟩
  · have z : isTupOf 1 2 th = true := by simpa using z
    obtain ⟨ts, rfl, t1, t2⟩ : ∃ ts, th = .tup ts ∧ 1 ≤ ts.length ∧ ts.length ≤ 2 := by
      cases th <;> simp [isTupOf] at z
      exact ⟨_, rfl, by omega, by omega⟩
    refine c1_is_clash_ok hs t2 (okT ht rfl) fun c3 => ?_
    rw [ln]
    refine ⟨_, ts.map fun t => isBetw 0 ((ss.length : Int) - 1) t, .inl rfl, by rw [List.map_map]; rfl, ?_⟩
    simp only [seqD_t, wAsg2, wTold2, wEnumB, wListOfOwn, wRetOwnG, dcOf, wIsiT, offE, D.adr.injEq, Cont.pool.injEq, ixN31, ne_eq, List.map_cons, List.map_nil, wRaise0, wRaise1, wFrz, wEnumT, wDict0, wDict1, numD3, Nat.reduceAdd, atI0, atI1, atI2, atI3, atI4, ixN51, ixN52, ixN53, List.length_map, scal, V.int.injEq, V.str.injEq, V.bl.injEq, wSq, wNext, wBreak, wDrop, wRet, wIfS, wAsg, wPar, wLstOwn, wAppend, wSetOwn, wIxOwn, wPeek, wRetFr, wFor, wB, wNot, wAnd, wOr, wAndV, wOrV, wNotV, wChain, wNil, wCons, wCB, wTup, wLst, wNoPart, wPart, wSlT, wSeq, wRng1, wRng2, wZip, wName, wNilT, wConsT, wTupT, wYes, wNeg, wVar, wC, wOp, wcNil, wcCons, wcOwn, wCall, wCallOwn, slots, cellsOf, OwnArgs, putBack, g2I, g2IC, gLen, gAbs, gGcd, gInt1, gTupleOf, gListOf, gIx, gCatT, gCat, gEq, gNe, gIsN, gNotN, scD, seqD_t, seqD_l, seqD_f, isNonD, List.nodup_cons, List.mem_cons, List.not_mem_nil, or_false, not_false_eq_true, Nat.reduceEqDiff, L3.Keeps, ends, wipeD, List.replicate, List.cons_append, List.nil_append, List.append_nil, List.getElem?_cons_zero, List.getElem?_cons_succ, List.set_cons_zero, List.set_cons_succ, List.getD_cons_zero, List.getD_cons_succ, List.length_cons, List.length_nil, List.nodup_nil, Option.some.injEq, Cell.dat.injEq, Cell.own.injEq, Cont.lst.injEq, D.bl.injEq, D.int.injEq, D.str.injEq, D.tup.injEq, D.lst.injEq, Arg.d.injEq, List.cons.injEq, exists_and_left, exists_and_right, exists_eq_left', exists_eq_left, exists_eq_right, exists_eq_right', exists_eq, exists_eq', and_true, true_and, and_assoc, and_self, exists_const, reduceCtorEq, web_wE, web_pE, webD_inj]
    by_cases hall : ∀ t ∈ ts, isBetw 0 ((ss.length : Int) - 1) t = true
    · obtain ⟨is, rfl, hi⟩ := betw_nat hall
      have ea : ((is.map fun i => D.int (i : Nat)).map fun t => isBetw 0 ((ss.length : Int) - 1) t).all id = true := by
        rw [List.all_eq_true]
        intro b hb'
        obtain ⟨t, ht', rfl⟩ := List.mem_map.mp hb'
        exact hall t ht'
      rw [ea]
      rw [List.length_map] at t1 t2
      match is, t1, t2 with
      | [i], _, _ =>
        have hv : ThV ss.length (.tup ([i].map fun i => .int (i : Nat))) [i] := ⟨rfl, .inl rfl, hi, by simp⟩
        refine ⟨fun z => (nomatch z), fun _ => ⟨fun z => (by simp at z), fun _ => ⟨fun f => f.elim, fun _ => ?_⟩⟩⟩
        refine c2_is_clash_ok hs (by simp) hi fun c4 => ?_
        simp only [fs_clash_of, wAsg2, wTold2, wEnumB, wListOfOwn, wRetOwnG, dcOf, wIsiT, offE, D.adr.injEq, Cont.pool.injEq, ixN31, ne_eq, List.map_cons, List.map_nil, wRaise0, wRaise1, wFrz, wEnumT, wDict0, wDict1, numD3, Nat.reduceAdd, atI0, atI1, atI2, atI3, atI4, ixN51, ixN52, ixN53, List.length_map, scal, V.int.injEq, V.str.injEq, V.bl.injEq, wSq, wNext, wBreak, wDrop, wRet, wIfS, wAsg, wPar, wLstOwn, wAppend, wSetOwn, wIxOwn, wPeek, wRetFr, wFor, wB, wNot, wAnd, wOr, wAndV, wOrV, wNotV, wChain, wNil, wCons, wCB, wTup, wLst, wNoPart, wPart, wSlT, wSeq, wRng1, wRng2, wZip, wName, wNilT, wConsT, wTupT, wYes, wNeg, wVar, wC, wOp, wcNil, wcCons, wcOwn, wCall, wCallOwn, slots, cellsOf, OwnArgs, putBack, g2I, g2IC, gLen, gAbs, gGcd, gInt1, gTupleOf, gListOf, gIx, gCatT, gCat, gEq, gNe, gIsN, gNotN, scD, seqD_t, seqD_l, seqD_f, isNonD, List.nodup_cons, List.mem_cons, List.not_mem_nil, or_false, not_false_eq_true, Nat.reduceEqDiff, L3.Keeps, ends, wipeD, List.replicate, List.cons_append, List.nil_append, List.append_nil, List.getElem?_cons_zero, List.getElem?_cons_succ, List.set_cons_zero, List.set_cons_succ, List.getD_cons_zero, List.getD_cons_succ, List.length_cons, List.length_nil, List.nodup_nil, Option.some.injEq, Cell.dat.injEq, Cell.own.injEq, Cont.lst.injEq, D.bl.injEq, D.int.injEq, D.str.injEq, D.tup.injEq, D.lst.injEq, Arg.d.injEq, List.cons.injEq, exists_and_left, exists_and_right, exists_eq_left', exists_eq_left, exists_eq_right, exists_eq_right', exists_eq, exists_eq', and_true, true_and, and_assoc, and_self, exists_const, reduceCtorEq, web_wE, web_pE, webD_inj]
        exact ⟨pkS ss [i], .inl rfl, pk_ok ok, m1, m6, fun ds hC => hq true ⟨fun _ => ⟨[i], hv, hC⟩, fun _ => rfl⟩, fun hC => hq false ⟨fun y => (nomatch y), fun ⟨is', hv', hC'⟩ => (hC (by rw [thV_eq hv hv']; exact hC')).elim⟩⟩
      | [i, j], _, _ =>
        refine ⟨fun z => (nomatch z), fun _ => ⟨fun _ => ⟨_, rfl, _, rfl, gEqD_int ⟨_, rfl, fun z => ?_, fun z => ?_⟩⟩, fun z => (by simp at z)⟩⟩
        · have z : (i : Int) = (j : Int) := of_decide_eq_true z
          refine hq false ⟨fun y => (nomatch y), fun ⟨is', hv', _⟩ => ?_⟩
          obtain ⟨e1, _, _, nd⟩ := hv'
          injection e1 with e1
          have e1 := ints_inj e1
          subst e1
          simp at nd
          omega
        have z : ¬ (i : Int) = (j : Int) := of_decide_eq_false z
        have hv : ThV ss.length (.tup ([i, j].map fun i => .int (i : Nat))) [i, j] := ⟨rfl, .inr rfl, hi, by simp; omega⟩
        refine c2_is_clash_ok hs (by simp) hi fun c4 => ?_
        simp only [fs_clash_of, wAsg2, wTold2, wEnumB, wListOfOwn, wRetOwnG, dcOf, wIsiT, offE, D.adr.injEq, Cont.pool.injEq, ixN31, ne_eq, List.map_cons, List.map_nil, wRaise0, wRaise1, wFrz, wEnumT, wDict0, wDict1, numD3, Nat.reduceAdd, atI0, atI1, atI2, atI3, atI4, ixN51, ixN52, ixN53, List.length_map, scal, V.int.injEq, V.str.injEq, V.bl.injEq, wSq, wNext, wBreak, wDrop, wRet, wIfS, wAsg, wPar, wLstOwn, wAppend, wSetOwn, wIxOwn, wPeek, wRetFr, wFor, wB, wNot, wAnd, wOr, wAndV, wOrV, wNotV, wChain, wNil, wCons, wCB, wTup, wLst, wNoPart, wPart, wSlT, wSeq, wRng1, wRng2, wZip, wName, wNilT, wConsT, wTupT, wYes, wNeg, wVar, wC, wOp, wcNil, wcCons, wcOwn, wCall, wCallOwn, slots, cellsOf, OwnArgs, putBack, g2I, g2IC, gLen, gAbs, gGcd, gInt1, gTupleOf, gListOf, gIx, gCatT, gCat, gEq, gNe, gIsN, gNotN, scD, seqD_t, seqD_l, seqD_f, isNonD, List.nodup_cons, List.mem_cons, List.not_mem_nil, or_false, not_false_eq_true, Nat.reduceEqDiff, L3.Keeps, ends, wipeD, List.replicate, List.cons_append, List.nil_append, List.append_nil, List.getElem?_cons_zero, List.getElem?_cons_succ, List.set_cons_zero, List.set_cons_succ, List.getD_cons_zero, List.getD_cons_succ, List.length_cons, List.length_nil, List.nodup_nil, Option.some.injEq, Cell.dat.injEq, Cell.own.injEq, Cont.lst.injEq, D.bl.injEq, D.int.injEq, D.str.injEq, D.tup.injEq, D.lst.injEq, Arg.d.injEq, List.cons.injEq, exists_and_left, exists_and_right, exists_eq_left', exists_eq_left, exists_eq_right, exists_eq_right', exists_eq, exists_eq', and_true, true_and, and_assoc, and_self, exists_const, reduceCtorEq, web_wE, web_pE, webD_inj]
        exact ⟨pkS ss [i, j], .inl rfl, pk_ok ok, m1, m6, fun ds hC => hq true ⟨fun _ => ⟨[i, j], hv, hC⟩, fun _ => rfl⟩, fun hC => hq false ⟨fun y => (nomatch y), fun ⟨is', hv', hC'⟩ => (hC (by rw [thV_eq hv hv']; exact hC')).elim⟩⟩
    · have ea : (ts.map fun t => isBetw 0 ((ss.length : Int) - 1) t).all id = false := by
        rw [List.all_eq_false]
        have : ∃ t ∈ ts, ¬ isBetw 0 ((ss.length : Int) - 1) t = true := Classical.byContradiction fun hno => hall fun t ht' => Classical.byContradiction fun h => hno ⟨t, ht', h⟩
        obtain ⟨t, ht', hb'⟩ := this
        exact ⟨_, List.mem_map.mpr ⟨t, ht', rfl⟩, hb'⟩
      rw [ea]
      refine ⟨fun _ => hq false ⟨fun y => (nomatch y), fun ⟨is, hv, _⟩ => ?_⟩, fun z => (nomatch z)⟩
      obtain ⟨_, ts', e1, h⟩ := thV_is hv
      cases e1
      exact absurd h hall
  · have := (thV_is hv).1
    rw [this] at z
    cases z
theorem ok_is_clash (T : Txt K mg) : FnOk P w K mg base (L2.CX P w) 5 T.f_is_clash T.fd_is_clash ["sights", "many", "thing"] (spOf K 3 (fs_is_clash K T.Z)) := by
  refine def_ok T.F_is_clash sc_is_clash (wb := w_is_clash K T.Z) pure_is_clash ?_
  intro cdv A outer s H E hr tk
  exact ⟨_, (pss_cons (ps_expr (pe_callS (ok_check_sights T) (hr.mono (by decide)) rfl T.g_check_sights T.k_check_sights T.b_check_sights (fun σ => passAt tk σ) (pa_cons (pv 0) (pa_cons (pv 1) pa_nil))))
      (pss_cons (ps_if (PW.pt (pw_or (pt_not (pt_val (pe_callS (ok_is_tuple_of T) (hr.mono (by decide)) rfl T.g_is_tuple_of T.k_is_tuple_of T.b_is_tuple_of (fun σ => passAt tk σ) (pa_cons pe_int (pa_cons pe_int (pa_cons (pv 2) pa_nil)))))) (pw_or1 (pt_not (pt_val (pe_callB (cr_all (by rfl)) (by rfl) T.z_all (by decide +kernel) (pa_cons (pe_lc (own := [("index", 3)]) (g := (gName 3)) (tt := tYes) (te := (tCallS (spOf K 3 (fs_is_between K)) (L2.WE W0) (tCons (tC (.int 0)) (tCons (tOp rSubI (tCB (rLenS K) (tCons (tVar 0) tNil)) (tC (.int 1))) (tCons (tVar 3) tNil))))) rfl sc_is_clash.nd (pi_seq (pv 2)) (blkOk_by (N := ["sights", "many", "thing", "index"]) (sc := defScope s_is_clash) (by decide +kernel)) (fun _ _ _ _ _ => (pg_name (i := 3) sc_is_clash.nd rfl (by first | exact Or.inl rfl | exact Or.inr rfl))) (fun _ _ _ _ _ => pts_nil) (fun _ _ _ _ _ => (pe_callS (ok_is_between T) (hr.mono (by decide)) rfl T.g_is_between T.k_is_between T.b_is_between (fun σ => passAt L2.takes0 σ) (pa_cons pe_int (pa_cons (pe_op op_sub (pe_callB call_len_seq (by rfl) T.z_len (by decide +kernel) (pa_cons (pv 0) pa_nil)) pe_int) (pa_cons (pv 3) pa_nil)))))) pa_nil)))))))
        (pss_one (ps_ret pe_bl))
        pss_nil)
      (pss_cons (ps_if (PW.pt (pw_and (pt_cmpR op_eq (pe_callB call_len_seq (by rfl) T.z_len (by decide +kernel) (pa_cons (pv 2) pa_nil)) pe_int (nomark _)) (pw_and1 (pt_cmpR (op_eqD hr.units) (pe_ix ix_seq (pv 2) pe_int (fun _ _ => rfl)) (pe_ix ix_seq (pv 2) pe_int (fun _ _ => rfl)) (nomark _)))))
        (pss_one (ps_ret pe_bl))
        pss_nil)
      (pss_one (ps_ret (pe_cmpR op_notN (pe_callS (ok_clash_of T) (hr.mono (by decide)) rfl T.g_clash_of T.k_clash_of T.b_clash_of (fun σ => passAt tk σ) (pa_cons (pe_lc (own := [("index", 3)]) (g := (gName 3)) (tt := tYes) (te := (tOp (rIx K) (tVar 0) (tVar 3))) rfl sc_is_clash.nd (pi_seq (pv 2)) (blkOk_by (N := ["sights", "many", "thing", "index"]) (sc := defScope s_is_clash) (by decide +kernel)) (fun _ _ _ _ _ => (pg_name (i := 3) sc_is_clash.nd rfl (by first | exact Or.inl rfl | exact Or.inr rfl))) (fun _ _ _ _ _ => pts_nil) (fun _ _ _ _ _ => (pe_ix ix_seq (pv 0) (pv 3) (fun _ _ => rfl)))) (pa_cons (pv 1) pa_nil))) pe_non (nomark _))))))),
    (ds_seq (ds_drop (de_call (n := 2) (fs := fs_check_sights K T.Z) (dac_cons (de_var 0) (dac_cons (de_var 1) dac_nil))))
      (ds_seq (ds_if (dt_or (dt_not (dt_B (de_call (n := 3) (fs := fs_is_tuple_of K) (dac_cons de_int (dac_cons de_int (dac_cons (de_var 2) dac_nil)))))) (dt_not (dt_B (de_cb o_all (da_cons (de_lc (vs := [3]) (wI := (wSeq (wVar 2))) (wg := (wName 3)) (wt := wYes) (we := (wCall 3 (fs_is_between K) (wcCons (wC (.int 0)) (wcCons (wOp gSubI (wCB gLen (wCons (wVar 0) wNil)) (wC (.int 1))) (wcCons (wVar 3) wcNil))))) (di_seq (de_var 2)) (dg_name 3) dt_yes (de_call (n := 3) (fs := fs_is_between K) (dac_cons de_int (dac_cons (de_op o_sub (de_cb o_len (da_cons (de_var 0) da_nil)) de_int) (dac_cons (de_var 3) dac_nil)))) (by decide)) da_nil))))) (ds_ret de_bl) ds_nil)
      (ds_seq (ds_if (dt_and (dt_B (de_op o_eq (de_cb o_len (da_cons (de_var 2) da_nil)) de_int)) (dt_B (de_op o_eqD (de_op o_ix (de_var 2) de_int) (de_op o_ix (de_var 2) de_int)))) (ds_ret de_bl) ds_nil)
      (ds_ret (de_op o_notN (de_call (n := 2) (fs := fs_clash_of K) (dac_cons (de_lc (vs := [3]) (wI := (wSeq (wVar 2))) (wg := (wName 3)) (wt := wYes) (we := (wOp gIx (wVar 0) (wVar 3))) (di_seq (de_var 2)) (dg_name 3) dt_yes (de_op o_ix (de_var 0) (de_var 3)) (by decide)) (dac_cons (de_var 1) dac_nil))) de_non)))))⟩
abbrev s__law_source : Stmt := topS 36
theorem sc__law_source : FnScope ["script", "folded", "cell"] ["script"] (defScope s__law_source) := ⟨rfl, rfl, rfl, by decide +kernel, rfl, by decide +kernel, by decide +kernel⟩
def l1__law_source (K : PySem.W.Frag) : SW := wFor (wSeq (wVar 0)) (wName 2) (wAsg (wOp gModI (wCB gInt1 (wCons (wOp gAddI (wOp gMulA (wVar 1) (wC (.int 69621))) (wVar 2)) wNil)) (wC (.int 2147483647))) (wName 1))
def w__law_source (K : PySem.W.Frag) : SW := (wSq (wAsg (wC (.int 17)) (wName 1))
  (wSq (l1__law_source K)
  (wRetFr (wCons (wCB gListOf (wCons (wVar 0) wNil)) (wCons (wC (.int 0)) (wCons (wC (.int 0)) (wCons (wC (.int 0)) (wCons (wVar 1) wNil))))))))
def fs__law_source (K : PySem.W.Frag) : FSF := fun cs q _ => ∃ ns : List Int, cs = [.dat (.fl (ns.map D.int))] ∧ ns.length ≤ 1000 ∧ ∀ f : Int, q (.lst [.lst (ns.map D.int), .int 0, .int 0, .int 0, .int f]) cs
def InvS (ns : List Int) (_ : Nat) (τ : List Cell) : Prop := ∃ (f : Int) (c : Cell), τ = [.dat (.fl (ns.map D.int)), .dat (.int f), c] ∧ 0 ≤ f ∧ f < 2147483647
theorem l1__law_source_ok {ns : List Int} {c : Cell} {E : EndsD} (hn : ∀ (f : Int) c, E.nx [.dat (.fl (ns.map D.int)), .dat (.int f), c]) : l1__law_source K E [.dat (.fl (ns.map D.int)), .dat (.int 17), c] := by
  unfold l1__law_source wFor
  refine ⟨_, rfl, _, rfl, InvS ns, ⟨17, c, rfl, by decide, by decide⟩, ?_, ?_⟩
  · rintro i d τ2 hi ⟨f, c, rfl, h1, h2⟩
    rw [List.getElem?_map] at hi
    obtain ⟨n, _, rfl⟩ := Option.map_eq_some_iff.mp hi
    simp only [wAsg2, wTold2, wEnumB, wListOfOwn, wRetOwnG, dcOf, wIsiT, offE, D.adr.injEq, Cont.pool.injEq, ixN31, ne_eq, List.map_cons, List.map_nil, wRaise0, wRaise1, wFrz, wEnumT, wDict0, wDict1, numD3, Nat.reduceAdd, atI0, atI1, atI2, atI3, atI4, ixN51, ixN52, ixN53, List.length_map, scal, V.int.injEq, V.str.injEq, V.bl.injEq, wSq, wNext, wBreak, wDrop, wRet, wIfS, wAsg, wPar, wLstOwn, wAppend, wSetOwn, wIxOwn, wPeek, wRetFr, wFor, wB, wNot, wAnd, wOr, wAndV, wOrV, wNotV, wChain, wNil, wCons, wCB, wTup, wLst, wNoPart, wPart, wSlT, wSeq, wRng1, wRng2, wZip, wName, wNilT, wConsT, wTupT, wYes, wNeg, wVar, wC, wOp, wcNil, wcCons, wcOwn, wCall, wCallOwn, slots, cellsOf, OwnArgs, putBack, g2I, g2IC, gLen, gAbs, gGcd, gInt1, gTupleOf, gListOf, gIx, gCatT, gCat, gEq, gNe, gIsN, gNotN, scD, seqD_t, seqD_l, seqD_f, isNonD, List.nodup_cons, List.mem_cons, List.not_mem_nil, or_false, not_false_eq_true, Nat.reduceEqDiff, L3.Keeps, ends, wipeD, List.replicate, List.cons_append, List.nil_append, List.append_nil, List.getElem?_cons_zero, List.getElem?_cons_succ, List.set_cons_zero, List.set_cons_succ, List.getD_cons_zero, List.getD_cons_succ, List.length_cons, List.length_nil, List.nodup_nil, Option.some.injEq, Cell.dat.injEq, Cell.own.injEq, Cont.lst.injEq, D.bl.injEq, D.int.injEq, D.str.injEq, D.tup.injEq, D.lst.injEq, Arg.d.injEq, List.cons.injEq, exists_and_left, exists_and_right, exists_eq_left', exists_eq_left, exists_eq_right, exists_eq_right', exists_eq, exists_eq', and_true, true_and, and_assoc, and_self, exists_const, reduceCtorEq, web_wE, web_pE, webD_inj]
    refine ⟨cmul_r (by decide) (by decide), by decide, _, _, rfl, ?_, ?_⟩ <;> omega
  · rintro τ2 ⟨f, c, rfl, _, _⟩
    exact hn f c
theorem pure__law_source : PureF 1 2 (fs__law_source K) (w__law_source K) := by
  rintro cs q e - ⟨ns, rfl, hl, hq⟩
  simp only [w__law_source, wAsg2, wTold2, wEnumB, wListOfOwn, wRetOwnG, dcOf, wIsiT, offE, D.adr.injEq, Cont.pool.injEq, ixN31, ne_eq, List.map_cons, List.map_nil, wRaise0, wRaise1, wFrz, wEnumT, wDict0, wDict1, numD3, Nat.reduceAdd, atI0, atI1, atI2, atI3, atI4, ixN51, ixN52, ixN53, List.length_map, scal, V.int.injEq, V.str.injEq, V.bl.injEq, wSq, wNext, wBreak, wDrop, wRet, wIfS, wAsg, wPar, wLstOwn, wAppend, wSetOwn, wIxOwn, wPeek, wRetFr, wFor, wB, wNot, wAnd, wOr, wAndV, wOrV, wNotV, wChain, wNil, wCons, wCB, wTup, wLst, wNoPart, wPart, wSlT, wSeq, wRng1, wRng2, wZip, wName, wNilT, wConsT, wTupT, wYes, wNeg, wVar, wC, wOp, wcNil, wcCons, wcOwn, wCall, wCallOwn, slots, cellsOf, OwnArgs, putBack, g2I, g2IC, gLen, gAbs, gGcd, gInt1, gTupleOf, gListOf, gIx, gCatT, gCat, gEq, gNe, gIsN, gNotN, scD, seqD_t, seqD_l, seqD_f, isNonD, List.nodup_cons, List.mem_cons, List.not_mem_nil, or_false, not_false_eq_true, Nat.reduceEqDiff, L3.Keeps, ends, wipeD, List.replicate, List.cons_append, List.nil_append, List.append_nil, List.getElem?_cons_zero, List.getElem?_cons_succ, List.set_cons_zero, List.set_cons_succ, List.getD_cons_zero, List.getD_cons_succ, List.length_cons, List.length_nil, List.nodup_nil, Option.some.injEq, Cell.dat.injEq, Cell.own.injEq, Cont.lst.injEq, D.bl.injEq, D.int.injEq, D.str.injEq, D.tup.injEq, D.lst.injEq, Arg.d.injEq, List.cons.injEq, exists_and_left, exists_and_right, exists_eq_left', exists_eq_left, exists_eq_right, exists_eq_right', exists_eq, exists_eq', and_true, true_and, and_assoc, and_self, exists_const, reduceCtorEq, web_wE, web_pE, webD_inj]
  refine l1__law_source_ok fun f c => ?_
  simp only [seqD_f, wAsg2, wTold2, wEnumB, wListOfOwn, wRetOwnG, dcOf, wIsiT, offE, D.adr.injEq, Cont.pool.injEq, ixN31, ne_eq, List.map_cons, List.map_nil, wRaise0, wRaise1, wFrz, wEnumT, wDict0, wDict1, numD3, Nat.reduceAdd, atI0, atI1, atI2, atI3, atI4, ixN51, ixN52, ixN53, List.length_map, scal, V.int.injEq, V.str.injEq, V.bl.injEq, wSq, wNext, wBreak, wDrop, wRet, wIfS, wAsg, wPar, wLstOwn, wAppend, wSetOwn, wIxOwn, wPeek, wRetFr, wFor, wB, wNot, wAnd, wOr, wAndV, wOrV, wNotV, wChain, wNil, wCons, wCB, wTup, wLst, wNoPart, wPart, wSlT, wSeq, wRng1, wRng2, wZip, wName, wNilT, wConsT, wTupT, wYes, wNeg, wVar, wC, wOp, wcNil, wcCons, wcOwn, wCall, wCallOwn, slots, cellsOf, OwnArgs, putBack, g2I, g2IC, gLen, gAbs, gGcd, gInt1, gTupleOf, gListOf, gIx, gCatT, gCat, gEq, gNe, gIsN, gNotN, scD, seqD_t, seqD_l, seqD_f, isNonD, List.nodup_cons, List.mem_cons, List.not_mem_nil, or_false, not_false_eq_true, Nat.reduceEqDiff, L3.Keeps, ends, wipeD, List.replicate, List.cons_append, List.nil_append, List.append_nil, List.getElem?_cons_zero, List.getElem?_cons_succ, List.set_cons_zero, List.set_cons_succ, List.getD_cons_zero, List.getD_cons_succ, List.length_cons, List.length_nil, List.nodup_nil, Option.some.injEq, Cell.dat.injEq, Cell.own.injEq, Cont.lst.injEq, D.bl.injEq, D.int.injEq, D.str.injEq, D.tup.injEq, D.lst.injEq, Arg.d.injEq, List.cons.injEq, exists_and_left, exists_and_right, exists_eq_left', exists_eq_left, exists_eq_right, exists_eq_right', exists_eq, exists_eq', and_true, true_and, and_assoc, and_self, exists_const, reduceCtorEq, web_wE, web_pE, webD_inj]
  exact ⟨by decide, hq f⟩
theorem ok__law_source (T : Txt K mg) : FnOk P w K mg base (L2.CX P w) 1 T.f__law_source T.fd__law_source ["script"] (spFr K 1 (fs__law_source K)) := by
  refine def_okFr T.F__law_source sc__law_source (wb := w__law_source K) pure__law_source ?_
  intro cdv A outer s H E hr tk
  exact ⟨_, (pss_cons (ps_set (i := 1) sc__law_source.nd rfl (by first | exact Or.inl rfl | exact Or.inr rfl) pe_int)
      (pss_cons (ps_for (passes_of rfl) rfl (pi_seq (pv 0)) (pg_name (i := 2) sc__law_source.nd rfl (by first | exact Or.inl rfl | exact Or.inr rfl))
        (pss_one (ps_set (i := 1) sc__law_source.nd rfl (by first | exact Or.inl rfl | exact Or.inr rfl) (pe_op op_mod (pe_callTy call_int1 (by rfl) T.z_int (by decide +kernel) (pa_cons (pe_op op_add (pe_op op_mulA (pv 1) pe_int) (pv 2)) pa_nil)) pe_int))))
      (pss_one (ps_ret (pe_lst (pa_cons (pe_callTy call_list_of (by rfl) T.z_list (by decide +kernel) (pa_cons (pv 0) pa_nil)) (pa_cons pe_int (pa_cons pe_int (pa_cons pe_int (pa_cons (pv 1) pa_nil)))))))))),
    (ds_seq (ds_asg de_int (dg_name 1))
      (ds_seq (ds_for (wI := (wSeq (wVar 0))) (wg := (wName 2)) (wb := (wAsg (wOp gModI (wCB gInt1 (wCons (wOp gAddI (wOp gMulA (wVar 1) (wC (.int 69621))) (wVar 2)) wNil)) (wC (.int 2147483647))) (wName 1))) (di_seq (de_var 0)) (dg_name 2) (ds_asg (de_op o_mod (de_cb o_int1 (da_cons (de_op o_add (de_op o_mulA (de_var 1) de_int) (de_var 2)) da_nil)) de_int) (dg_name 1)))
      (ds_retFr (da_cons (de_cb o_listOf (da_cons (de_var 0) da_nil)) (da_cons de_int (da_cons de_int (da_cons de_int (da_cons (de_var 1) da_nil))))))))⟩
abbrev s__law_mixed : Stmt := topS 37
theorem sc__law_mixed : FnScope ["number", "turn", "mixed"] ["number", "turn"] (defScope s__law_mixed) := ⟨rfl, rfl, rfl, by decide +kernel, rfl, by decide +kernel, by decide +kernel⟩
def w__law_mixed (K : PySem.W.Frag) : SW := (wSq (wAsg (wOp gModI (wCB gInt1 (wCons (wOp gMulA (wOp gModI (wCB gInt1 (wCons (wOp gAddI (wOp gAddI (wVar 0) (wOp gMulA (wC (.int 7919)) (wVar 1))) (wC (.int 1))) wNil)) (wC (.int 2147483647))) (wC (.int 48271))) wNil)) (wC (.int 2147483647))) (wName 2))
  (wSq (wAsg (wOp gModI (wCB gInt1 (wCons (wOp gMulA (wVar 2) (wOp gAddI (wOp gDivW (wVar 2) (wC (.int 1009))) (wC (.int 69621)))) wNil)) (wC (.int 2147483647))) (wName 2))
  (wRet (wOp gModI (wCB gInt1 (wCons (wOp gMulA (wVar 2) (wOp gAddI (wOp gDivW (wVar 2) (wC (.int 2003))) (wC (.int 40692)))) wNil)) (wC (.int 2147483399))))))
def fs__law_mixed (K : PySem.W.Frag) : FS := fun cs q _ => ∃ (n t : Int), cs = [.dat (.int n), .dat (.int t)] ∧ ∀ r : Int, 0 ≤ r → r < 2147483399 → q (.int r) cs
theorem divw {i j : Int} (h : 0 < j) (h2 : j < 2 ^ 30) : CDivW i j := wide_div h (b := 30) (by omega) (by decide) (by decide)
theorem pure__law_mixed : PureD 2 1 (fs__law_mixed K) (w__law_mixed K) := by
  rintro cs q e - ⟨n, t, rfl, hq⟩
  simp only [w__law_mixed, wAsg2, wTold2, wEnumB, wListOfOwn, wRetOwnG, dcOf, wIsiT, offE, D.adr.injEq, Cont.pool.injEq, ixN31, ne_eq, List.map_cons, List.map_nil, wRaise0, wRaise1, wFrz, wEnumT, wDict0, wDict1, numD3, Nat.reduceAdd, atI0, atI1, atI2, atI3, atI4, ixN51, ixN52, ixN53, List.length_map, scal, V.int.injEq, V.str.injEq, V.bl.injEq, wSq, wNext, wBreak, wDrop, wRet, wIfS, wAsg, wPar, wLstOwn, wAppend, wSetOwn, wIxOwn, wPeek, wRetFr, wFor, wB, wNot, wAnd, wOr, wAndV, wOrV, wNotV, wChain, wNil, wCons, wCB, wTup, wLst, wNoPart, wPart, wSlT, wSeq, wRng1, wRng2, wZip, wName, wNilT, wConsT, wTupT, wYes, wNeg, wVar, wC, wOp, wcNil, wcCons, wcOwn, wCall, wCallOwn, slots, cellsOf, OwnArgs, putBack, g2I, g2IC, gLen, gAbs, gGcd, gInt1, gTupleOf, gListOf, gIx, gCatT, gCat, gEq, gNe, gIsN, gNotN, scD, seqD_t, seqD_l, seqD_f, isNonD, List.nodup_cons, List.mem_cons, List.not_mem_nil, or_false, not_false_eq_true, Nat.reduceEqDiff, L3.Keeps, ends, wipeD, List.replicate, List.cons_append, List.nil_append, List.append_nil, List.getElem?_cons_zero, List.getElem?_cons_succ, List.set_cons_zero, List.set_cons_succ, List.getD_cons_zero, List.getD_cons_succ, List.length_cons, List.length_nil, List.nodup_nil, Option.some.injEq, Cell.dat.injEq, Cell.own.injEq, Cont.lst.injEq, D.bl.injEq, D.int.injEq, D.str.injEq, D.tup.injEq, D.lst.injEq, Arg.d.injEq, List.cons.injEq, exists_and_left, exists_and_right, exists_eq_left', exists_eq_left, exists_eq_right, exists_eq_right', exists_eq, exists_eq', and_true, true_and, and_assoc, and_self, exists_const, reduceCtorEq, web_wE, web_pE, webD_inj]
  refine ⟨cmul_l (by decide) (by decide), by decide, cmul_r (by decide) (by decide), by decide, divw (by decide) (by decide), cmul_l ?_ ?_, by decide, divw (by decide) (by decide), cmul_l ?_ ?_, by decide, hq _ ?_ ?_⟩ <;> omega
theorem ok__law_mixed (T : Txt K mg) : FnOk P w K mg base (L2.CX P w) 1 T.f__law_mixed T.fd__law_mixed ["number", "turn"] (spOf K 2 (fs__law_mixed K)) := by
  refine def_ok T.F__law_mixed sc__law_mixed (wb := w__law_mixed K) pure__law_mixed ?_
  intro cdv A outer s H E hr tk
  exact ⟨_, (pss_cons (ps_set (i := 2) sc__law_mixed.nd rfl (by first | exact Or.inl rfl | exact Or.inr rfl) (pe_op op_mod (pe_callTy call_int1 (by rfl) T.z_int (by decide +kernel) (pa_cons (pe_op op_mulA (pe_op op_mod (pe_callTy call_int1 (by rfl) T.z_int (by decide +kernel) (pa_cons (pe_op op_add (pe_op op_add (pv 0) (pe_op op_mulA pe_int (pv 1))) pe_int) pa_nil)) pe_int) pe_int) pa_nil)) pe_int))
      (pss_cons (ps_set (i := 2) sc__law_mixed.nd rfl (by first | exact Or.inl rfl | exact Or.inr rfl) (pe_op op_mod (pe_callTy call_int1 (by rfl) T.z_int (by decide +kernel) (pa_cons (pe_op op_mulA (pv 2) (pe_op op_add (pe_op op_fdivW (pv 2) pe_int) pe_int)) pa_nil)) pe_int))
      (pss_one (ps_ret (pe_op op_mod (pe_callTy call_int1 (by rfl) T.z_int (by decide +kernel) (pa_cons (pe_op op_mulA (pv 2) (pe_op op_add (pe_op op_fdivW (pv 2) pe_int) pe_int)) pa_nil)) pe_int))))),
    (ds_seq (ds_asg (de_op o_mod (de_cb o_int1 (da_cons (de_op o_mulA (de_op o_mod (de_cb o_int1 (da_cons (de_op o_add (de_op o_add (de_var 0) (de_op o_mulA de_int (de_var 1))) de_int) da_nil)) de_int) de_int) da_nil)) de_int) (dg_name 2))
      (ds_seq (ds_asg (de_op o_mod (de_cb o_int1 (da_cons (de_op o_mulA (de_var 2) (de_op o_add (de_op o_fdivW (de_var 2) de_int) de_int)) da_nil)) de_int) (dg_name 2))
      (ds_ret (de_op o_mod (de_cb o_int1 (da_cons (de_op o_mulA (de_var 2) (de_op o_add (de_op o_fdivW (de_var 2) de_int) de_int)) da_nil)) de_int))))⟩
abbrev s__law_draw : Stmt := topS 38
theorem sc__law_draw : FnScope ["source", "many", "number", "cell"] ["source", "many"] (defScope s__law_draw) := ⟨rfl, rfl, rfl, by decide +kernel, rfl, by decide +kernel, by decide +kernel⟩
def w__law_draw (K : PySem.W.Frag) : SW := (wSq (wSetOwn 0 (wOp gAddI (wIxOwn 0 (wC (.int 3))) (wC (.int 1))) (wC (.int 3)))
  (wSq (wIfS (wB (wOp gGtI (wIxOwn 0 (wC (.int 2))) (wC (.int 0)))) (wSq (wAsg (wIxOwn 0 (wC (.int 2))) (wName 2))
  (wSq (wSetOwn 0 (wOp gDivW (wVar 2) (wVar 1)) (wC (.int 2)))
  (wRet (wOp gModI (wCB gInt1 (wCons (wVar 2) wNil)) (wVar 1))))) wNext)
  (wSq (wIfS (wB (wOp gLtI (wIxOwn 0 (wC (.int 1))) (wCB gLen (wCons (wIxOwn 0 (wC (.int 0))) wNil)))) (wSq (wAsg (wOp gIx (wIxOwn 0 (wC (.int 0))) (wIxOwn 0 (wC (.int 1)))) (wName 3))
  (wSq (wSetOwn 0 (wOp gAddI (wIxOwn 0 (wC (.int 1))) (wC (.int 1))) (wC (.int 1)))
  (wSq (wAsg (wOp gAddI (wOp gMulA (wC (.int 2)) (wCB gAbs (wCons (wVar 3) wNil))) (wCB gInt1 (wCons (wOp gLtI (wVar 3) (wC (.int 0))) wNil))) (wName 2))
  (wSq (wIfS (wB (wOp gGeI (wVar 2) (wOp gPowI (wC (.int 10)) (wC (.int 18))))) (wSq (wSetOwn 0 (wOp gDivW (wVar 2) (wVar 1)) (wC (.int 2)))
  (wRet (wOp gModI (wCB gInt1 (wCons (wVar 2) wNil)) (wVar 1)))) wNext)
  (wRet (wOp gModI (wCB gInt1 (wCons (wOp gDivW (wCall 2 (fs__law_mixed K) (wcCons (wVar 2) (wcCons (wIxOwn 0 (wC (.int 3))) wcNil))) (wC (.int 16))) wNil)) (wVar 1))))))) wNext)
  (wRet (wOp gModI (wCB gInt1 (wCons (wOp gDivW (wCall 2 (fs__law_mixed K) (wcCons (wIxOwn 0 (wC (.int 4))) (wcCons (wIxOwn 0 (wC (.int 3))) wcNil))) (wC (.int 16))) wNil)) (wVar 1))))))
def fs__law_draw (K : PySem.W.Frag) : FS := fun cs q _ => ∃ (p : Addr) (c : Cont) (many : Int), cs = [.own p c, .dat (.int many)] ∧ SrcC c ∧ 0 < many ∧ many < 2 ^ 200 ∧
  ∀ (c' : Cont) (n : Int), SrcC c' → 0 ≤ n → n < many → q (.int n) [.own p c', .dat (.int many)]
theorem pure__law_draw : PureD 2 2 (fs__law_draw K) (w__law_draw K) := by
  rintro cs q e - ⟨p, c, many, rfl, ⟨ns, i, r, t, f, rfl, h0, h1⟩, hm, hm2, hq⟩
  simp only [w__law_draw, fs__law_mixed, wAsg2, wTold2, wEnumB, wListOfOwn, wRetOwnG, dcOf, wIsiT, offE, D.adr.injEq, Cont.pool.injEq, ixN31, ne_eq, List.map_cons, List.map_nil, wRaise0, wRaise1, wFrz, wEnumT, wDict0, wDict1, numD3, Nat.reduceAdd, atI0, atI1, atI2, atI3, atI4, ixN51, ixN52, ixN53, List.length_map, scal, V.int.injEq, V.str.injEq, V.bl.injEq, wSq, wNext, wBreak, wDrop, wRet, wIfS, wAsg, wPar, wLstOwn, wAppend, wSetOwn, wIxOwn, wPeek, wRetFr, wFor, wB, wNot, wAnd, wOr, wAndV, wOrV, wNotV, wChain, wNil, wCons, wCB, wTup, wLst, wNoPart, wPart, wSlT, wSeq, wRng1, wRng2, wZip, wName, wNilT, wConsT, wTupT, wYes, wNeg, wVar, wC, wOp, wcNil, wcCons, wcOwn, wCall, wCallOwn, slots, cellsOf, OwnArgs, putBack, g2I, g2IC, gLen, gAbs, gGcd, gInt1, gTupleOf, gListOf, gIx, gCatT, gCat, gEq, gNe, gIsN, gNotN, scD, seqD_t, seqD_l, seqD_f, isNonD, List.nodup_cons, List.mem_cons, List.not_mem_nil, or_false, not_false_eq_true, Nat.reduceEqDiff, L3.Keeps, ends, wipeD, List.replicate, List.cons_append, List.nil_append, List.append_nil, List.getElem?_cons_zero, List.getElem?_cons_succ, List.set_cons_zero, List.set_cons_succ, List.getD_cons_zero, List.getD_cons_succ, List.length_cons, List.length_nil, List.nodup_nil, Option.some.injEq, Cell.dat.injEq, Cell.own.injEq, Cont.lst.injEq, D.bl.injEq, D.int.injEq, D.str.injEq, D.tup.injEq, D.lst.injEq, Arg.d.injEq, List.cons.injEq, exists_and_left, exists_and_right, exists_eq_left', exists_eq_left, exists_eq_right, exists_eq_right', exists_eq, exists_eq', and_true, true_and, and_assoc, and_self, exists_const, reduceCtorEq, web_wE, web_pE, webD_inj]
  have dv : ∀ x : Int, CDivW x many := fun x => wide_div (b := 200) hm (by omega) (by decide) (by decide)
  have em : ∀ x : Int, 0 ≤ x % many ∧ x % many < many := fun x => ⟨Int.emod_nonneg x (by omega), Int.emod_lt_of_pos x hm⟩
  by_cases h2 : 0 < r
  · simp only [h2, decide_true, true_implies, reduceCtorEq, false_implies, and_true]
    exact ⟨dv _, hm, hq _ _ ⟨ns, i, r / many, t + 1, f, rfl, h0, Int.ediv_nonneg (by omega) (by omega)⟩ (em _).1 (em _).2⟩
  · simp only [h2, decide_false, true_implies, reduceCtorEq, false_implies, true_and]
    by_cases h3 : i < (ns.length : Int)
    · simp only [h3, decide_true, true_implies, reduceCtorEq, false_implies, and_true]
      obtain ⟨k, rfl⟩ := Int.eq_ofNat_of_zero_le h0
      have hk : k < ns.length := by omega
      refine ⟨_, atI_nat' (by rw [List.getElem?_map, List.getElem?_eq_getElem hk]; rfl), _, rfl, cmul_l (by decide) (by decide), _, rfl, ⟨by decide, by decide, by decide⟩, fun _ => ?_, fun _ => ?_⟩
      · refine ⟨dv _, hm, hq _ _ ⟨ns, _, _, _, _, rfl, by omega, Int.ediv_nonneg ?_ (by omega)⟩ (em _).1 (em _).2⟩
        split <;> split <;> omega
      · exact fun r' _ _ => ⟨divw (by decide) (by decide), hm, hq _ _ ⟨ns, _, _, _, _, rfl, by omega, h1⟩ (em _).1 (em _).2⟩
    · simp only [h3, decide_false, true_implies, reduceCtorEq, false_implies, true_and]
      exact fun r' _ _ => ⟨divw (by decide) (by decide), hm, hq _ _ ⟨ns, _, _, _, _, rfl, h0, h1⟩ (em _).1 (em _).2⟩
theorem ok__law_draw (T : Txt K mg) : FnOk P w K mg base (L2.CX P w) 2 T.f__law_draw T.fd__law_draw ["source", "many"] (spOf K 2 (fs__law_draw K)) := by
  refine def_ok T.F__law_draw sc__law_draw (wb := w__law_draw K) pure__law_draw ?_
  intro cdv A outer s H E hr tk
  exact ⟨_, (pss_cons (ps_asg (pe_op op_add (pe_ix ix_seq (pv 0) pe_int (fun _ _ => rfl)) pe_int) (pg_sub (pv 0) pe_int set_list))
      (pss_cons (ps_if (pt_cmpR op_gt (pe_ix ix_seq (pv 0) pe_int (fun _ _ => rfl)) pe_int (nomark _))
        (pss_cons (ps_set (i := 2) sc__law_draw.nd rfl (by first | exact Or.inl rfl | exact Or.inr rfl) (pe_ix ix_seq (pv 0) pe_int (fun _ _ => rfl)))
      (pss_cons (ps_asg (pe_op op_fdivW (pv 2) (pv 1)) (pg_sub (pv 0) pe_int set_list))
      (pss_one (ps_ret (pe_op op_mod (pe_callTy call_int1 (by rfl) T.z_int (by decide +kernel) (pa_cons (pv 2) pa_nil)) (pv 1))))))
        pss_nil)
      (pss_cons (ps_if (pt_cmpR op_lt (pe_ix ix_seq (pv 0) pe_int (fun _ _ => rfl)) (pe_callB call_len_seq (by rfl) T.z_len (by decide +kernel) (pa_cons (pe_ix ix_seq (pv 0) pe_int (fun _ _ => rfl)) pa_nil)) (nomark _))
        (pss_cons (ps_set (i := 3) sc__law_draw.nd rfl (by first | exact Or.inl rfl | exact Or.inr rfl) (pe_ix ix_seq (pe_ix ix_seq (pv 0) pe_int (fun _ _ => rfl)) (pe_ix ix_seq (pv 0) pe_int (fun _ _ => rfl)) (fun _ _ => rfl)))
      (pss_cons (ps_asg (pe_op op_add (pe_ix ix_seq (pv 0) pe_int (fun _ _ => rfl)) pe_int) (pg_sub (pv 0) pe_int set_list))
      (pss_cons (ps_set (i := 2) sc__law_draw.nd rfl (by first | exact Or.inl rfl | exact Or.inr rfl) (pe_op op_add (pe_op op_mulA pe_int (pe_callB call_abs (by rfl) T.z_abs (by decide +kernel) (pa_cons (pv 3) pa_nil))) (pe_callTy call_int1 (by rfl) T.z_int (by decide +kernel) (pa_cons (pe_cmpR op_lt (pv 3) pe_int (nomark _)) pa_nil))))
      (pss_cons (ps_if (pt_cmpR op_ge (pv 2) (pe_op op_pow pe_int pe_int) (nomark _))
        (pss_cons (ps_asg (pe_op op_fdivW (pv 2) (pv 1)) (pg_sub (pv 0) pe_int set_list))
      (pss_one (ps_ret (pe_op op_mod (pe_callTy call_int1 (by rfl) T.z_int (by decide +kernel) (pa_cons (pv 2) pa_nil)) (pv 1)))))
        pss_nil)
      (pss_one (ps_ret (pe_op op_mod (pe_callTy call_int1 (by rfl) T.z_int (by decide +kernel) (pa_cons (pe_op op_fdivW (pe_callS (ok__law_mixed T) (hr.mono (by decide)) rfl T.g__law_mixed T.k__law_mixed T.b__law_mixed (fun σ => passAt tk σ) (pa_cons (pv 2) (pa_cons (pe_ix ix_seq (pv 0) pe_int (fun _ _ => rfl)) pa_nil))) pe_int) pa_nil)) (pv 1))))))))
        pss_nil)
      (pss_one (ps_ret (pe_op op_mod (pe_callTy call_int1 (by rfl) T.z_int (by decide +kernel) (pa_cons (pe_op op_fdivW (pe_callS (ok__law_mixed T) (hr.mono (by decide)) rfl T.g__law_mixed T.k__law_mixed T.b__law_mixed (fun σ => passAt tk σ) (pa_cons (pe_ix ix_seq (pv 0) pe_int (fun _ _ => rfl)) (pa_cons (pe_ix ix_seq (pv 0) pe_int (fun _ _ => rfl)) pa_nil))) pe_int) pa_nil)) (pv 1))))))),
    (ds_seq (ds_setOwn (i := 0) (de_op o_add (de_ixOwn (i := 0) de_int) de_int) de_int)
      (ds_seq (ds_if (dt_B (de_op o_gt (de_ixOwn (i := 0) de_int) de_int)) (ds_seq (ds_asg (de_ixOwn (i := 0) de_int) (dg_name 2))
      (ds_seq (ds_setOwn (i := 0) (de_op o_fdivW (de_var 2) (de_var 1)) de_int)
      (ds_ret (de_op o_mod (de_cb o_int1 (da_cons (de_var 2) da_nil)) (de_var 1))))) ds_nil)
      (ds_seq (ds_if (dt_B (de_op o_lt (de_ixOwn (i := 0) de_int) (de_cb o_len (da_cons (de_ixOwn (i := 0) de_int) da_nil)))) (ds_seq (ds_asg (de_op o_ix (de_ixOwn (i := 0) de_int) (de_ixOwn (i := 0) de_int)) (dg_name 3))
      (ds_seq (ds_setOwn (i := 0) (de_op o_add (de_ixOwn (i := 0) de_int) de_int) de_int)
      (ds_seq (ds_asg (de_op o_add (de_op o_mulA de_int (de_cb o_abs (da_cons (de_var 3) da_nil))) (de_cb o_int1 (da_cons (de_op o_lt (de_var 3) de_int) da_nil))) (dg_name 2))
      (ds_seq (ds_if (dt_B (de_op o_ge (de_var 2) (de_op o_pow de_int de_int))) (ds_seq (ds_setOwn (i := 0) (de_op o_fdivW (de_var 2) (de_var 1)) de_int)
      (ds_ret (de_op o_mod (de_cb o_int1 (da_cons (de_var 2) da_nil)) (de_var 1)))) ds_nil)
      (ds_ret (de_op o_mod (de_cb o_int1 (da_cons (de_op o_fdivW (de_call (n := 2) (fs := fs__law_mixed K) (dac_cons (de_var 2) (dac_cons (de_ixOwn (i := 0) de_int) dac_nil))) de_int) da_nil)) (de_var 1))))))) ds_nil)
      (ds_ret (de_op o_mod (de_cb o_int1 (da_cons (de_op o_fdivW (de_call (n := 2) (fs := fs__law_mixed K) (dac_cons (de_ixOwn (i := 0) de_int) (dac_cons (de_ixOwn (i := 0) de_int) dac_nil))) de_int) da_nil)) (de_var 1))))))⟩
abbrev s__law_pick : Stmt := topS 39
theorem sc__law_pick : FnScope ["source", "row"] ["source", "row"] (defScope s__law_pick) := ⟨rfl, rfl, rfl, by decide +kernel, rfl, by decide +kernel, by decide +kernel⟩
def w__law_pick (K : PySem.W.Frag) : SW := (wRet (wOp gIx (wVar 1) (wCall 2 (fs__law_draw K) (wcOwn 0 (wcCons (wCB gLen (wCons (wVar 1) wNil)) wcNil)))))
def fs__law_pick (K : PySem.W.Frag) : FS := fun cs q _ => ∃ (p : Addr) (c : Cont) (d : D) (es : List D), cs = [.own p c, .dat d] ∧ SrcC c ∧ seqD d = some es ∧ 0 < es.length ∧ es.length ≤ 1000 ∧
  ∀ (c' : Cont) (x : D), SrcC c' → x ∈ es → q x [.own p c', .dat d]
theorem atI_pos {α : Type} {l : List α} {n : Int} (h0 : 0 ≤ n) (h1 : n < l.length) : ∃ x, atI l n = some x ∧ x ∈ l := by
  obtain ⟨k, rfl⟩ := Int.eq_ofNat_of_zero_le h0
  have hk : k < l.length := by omega
  exact ⟨l[k], atI_nat' (List.getElem?_eq_getElem hk), List.getElem_mem hk⟩
theorem pure__law_pick : PureD 2 0 (fs__law_pick K) (w__law_pick K) := by
  rintro cs q e - ⟨p, c, d, es, rfl, hc, hs, h1, h2, hq⟩
  simp only [w__law_pick, fs__law_draw, hs, wAsg2, wTold2, wEnumB, wListOfOwn, wRetOwnG, dcOf, wIsiT, offE, D.adr.injEq, Cont.pool.injEq, ixN31, ne_eq, List.map_cons, List.map_nil, wRaise0, wRaise1, wFrz, wEnumT, wDict0, wDict1, numD3, Nat.reduceAdd, atI0, atI1, atI2, atI3, atI4, ixN51, ixN52, ixN53, List.length_map, scal, V.int.injEq, V.str.injEq, V.bl.injEq, wSq, wNext, wBreak, wDrop, wRet, wIfS, wAsg, wPar, wLstOwn, wAppend, wSetOwn, wIxOwn, wPeek, wRetFr, wFor, wB, wNot, wAnd, wOr, wAndV, wOrV, wNotV, wChain, wNil, wCons, wCB, wTup, wLst, wNoPart, wPart, wSlT, wSeq, wRng1, wRng2, wZip, wName, wNilT, wConsT, wTupT, wYes, wNeg, wVar, wC, wOp, wcNil, wcCons, wcOwn, wCall, wCallOwn, slots, cellsOf, OwnArgs, putBack, g2I, g2IC, gLen, gAbs, gGcd, gInt1, gTupleOf, gListOf, gIx, gCatT, gCat, gEq, gNe, gIsN, gNotN, scD, seqD_t, seqD_l, seqD_f, isNonD, List.nodup_cons, List.mem_cons, List.not_mem_nil, or_false, not_false_eq_true, Nat.reduceEqDiff, L3.Keeps, ends, wipeD, List.replicate, List.cons_append, List.nil_append, List.append_nil, List.getElem?_cons_zero, List.getElem?_cons_succ, List.set_cons_zero, List.set_cons_succ, List.getD_cons_zero, List.getD_cons_succ, List.length_cons, List.length_nil, List.nodup_nil, Option.some.injEq, Cell.dat.injEq, Cell.own.injEq, Cont.lst.injEq, D.bl.injEq, D.int.injEq, D.str.injEq, D.tup.injEq, D.lst.injEq, Arg.d.injEq, List.cons.injEq, exists_and_left, exists_and_right, exists_eq_left', exists_eq_left, exists_eq_right, exists_eq_right', exists_eq, exists_eq', and_true, true_and, and_assoc, and_self, exists_const, reduceCtorEq, web_wE, web_pE, webD_inj]
  refine ⟨hc, by omega, by omega, fun c' n hc' h3 h4 => ?_⟩
  obtain ⟨x, e1, e2⟩ := atI_pos h3 h4
  exact ⟨x, e1, hq c' x hc' e2⟩
theorem ok__law_pick (T : Txt K mg) : FnOk P w K mg base (L2.CX P w) 3 T.f__law_pick T.fd__law_pick ["source", "row"] (spOf K 2 (fs__law_pick K)) := by
  refine def_ok T.F__law_pick sc__law_pick (wb := w__law_pick K) pure__law_pick ?_
  intro cdv A outer s H E hr tk
  exact ⟨_, (pss_one (ps_ret (pe_ix ix_seq (pv 1) (pe_callS (ok__law_draw T) (hr.mono (by decide)) rfl T.g__law_draw T.k__law_draw T.b__law_draw (fun σ => passAt tk σ) (pa_cons (pv 0) (pa_cons (pe_callB call_len_seq (by rfl) T.z_len (by decide +kernel) (pa_cons (pv 1) pa_nil)) pa_nil))) (fun _ _ => rfl)))),
    (ds_ret (de_op o_ix (de_var 1) (de_call (n := 2) (fs := fs__law_draw K) (dac_own (j := 0) (dac_cons (de_cb o_len (da_cons (de_var 1) da_nil)) dac_nil)))))⟩
def w__law_pick_o1 (K : PySem.W.Frag) : SW := (wRet (wIxOwn 1 (wCall 2 (fs__law_draw K) (wcOwn 0 (wcCons (wPeek 1 (fun es q => q (.int es.length))) wcNil)))))
def fs__law_pick_o1 (K : PySem.W.Frag) : FS := fun cs q _ => ∃ (p : Addr) (c : Cont) (p' : Addr) (es : List D), cs = [.own p c, .own p' (.lst es)] ∧ SrcC c ∧ 0 < es.length ∧ es.length ≤ 1000 ∧
  ∀ (c' : Cont) (x : D), SrcC c' → x ∈ es → q x [.own p c', .own p' (.lst es)]
theorem pure__law_pick_o1 : PureD 2 0 (fs__law_pick_o1 K) (w__law_pick_o1 K) := by
  rintro cs q e - ⟨p, c, p', es, rfl, hc, h1, h2, hq⟩
  simp only [w__law_pick_o1, fs__law_draw, wAsg2, wTold2, wEnumB, wListOfOwn, wRetOwnG, dcOf, wIsiT, offE, D.adr.injEq, Cont.pool.injEq, ixN31, ne_eq, List.map_cons, List.map_nil, wRaise0, wRaise1, wFrz, wEnumT, wDict0, wDict1, numD3, Nat.reduceAdd, atI0, atI1, atI2, atI3, atI4, ixN51, ixN52, ixN53, List.length_map, scal, V.int.injEq, V.str.injEq, V.bl.injEq, wSq, wNext, wBreak, wDrop, wRet, wIfS, wAsg, wPar, wLstOwn, wAppend, wSetOwn, wIxOwn, wPeek, wRetFr, wFor, wB, wNot, wAnd, wOr, wAndV, wOrV, wNotV, wChain, wNil, wCons, wCB, wTup, wLst, wNoPart, wPart, wSlT, wSeq, wRng1, wRng2, wZip, wName, wNilT, wConsT, wTupT, wYes, wNeg, wVar, wC, wOp, wcNil, wcCons, wcOwn, wCall, wCallOwn, slots, cellsOf, OwnArgs, putBack, g2I, g2IC, gLen, gAbs, gGcd, gInt1, gTupleOf, gListOf, gIx, gCatT, gCat, gEq, gNe, gIsN, gNotN, scD, seqD_t, seqD_l, seqD_f, isNonD, List.nodup_cons, List.mem_cons, List.not_mem_nil, or_false, not_false_eq_true, Nat.reduceEqDiff, L3.Keeps, ends, wipeD, List.replicate, List.cons_append, List.nil_append, List.append_nil, List.getElem?_cons_zero, List.getElem?_cons_succ, List.set_cons_zero, List.set_cons_succ, List.getD_cons_zero, List.getD_cons_succ, List.length_cons, List.length_nil, List.nodup_nil, Option.some.injEq, Cell.dat.injEq, Cell.own.injEq, Cont.lst.injEq, D.bl.injEq, D.int.injEq, D.str.injEq, D.tup.injEq, D.lst.injEq, Arg.d.injEq, List.cons.injEq, exists_and_left, exists_and_right, exists_eq_left', exists_eq_left, exists_eq_right, exists_eq_right', exists_eq, exists_eq', and_true, true_and, and_assoc, and_self, exists_const, reduceCtorEq, web_wE, web_pE, webD_inj]
  refine ⟨hc, by omega, by omega, fun c' n hc' h3 h4 => ?_⟩
  obtain ⟨x, e1, e2⟩ := atI_pos h3 h4
  exact ⟨x, e1, hq c' x hc' e2⟩
theorem ok__law_pick_o1 (T : Txt K mg) : FnOk P w K mg base (L2.CX P w) 3 T.f__law_pick T.fd__law_pick ["source", "row"] (spOf K 2 (fs__law_pick_o1 K)) := by
  refine def_ok T.F__law_pick sc__law_pick (wb := w__law_pick_o1 K) pure__law_pick_o1 ?_
  intro cdv A outer s H E hr tk
  exact ⟨_, (pss_one (ps_ret (pe_ix ix_seq (pv 1) (pe_callS (ok__law_draw T) (hr.mono (by decide)) rfl T.g__law_draw T.k__law_draw T.b__law_draw (fun σ => passAt tk σ) (pa_cons (pv 0) (pa_cons (pe_callB call_len_seq (by rfl) T.z_len (by decide +kernel) (pa_cons (pv 1) pa_nil)) pa_nil))) (fun _ _ => rfl)))),
    (ds_ret (de_ixOwn (i := 1) (de_call (n := 2) (fs := fs__law_draw K) (dac_own (j := 0) (dac_cons (de_peek (i := 1) p_len) dac_nil)))))⟩
abbrev s__law_divisor : Stmt := topS 40
theorem sc__law_divisor : FnScope ["one", "other", "turn"] ["one", "other"] (defScope s__law_divisor) := ⟨rfl, rfl, rfl, by decide +kernel, rfl, by decide +kernel, by decide +kernel⟩
def l1__law_divisor (K : PySem.W.Frag) : SW := wFor (wRng1 (wCons (wC (.int 600)) wNil)) (wName 2) (wSq (wIfS (wB (wOp gEq (wVar 1) (wC (.int 0)))) wBreak wNext)
  (wPar 0 1 (wCons (wVar 1) (wCons (wOp gModI (wCB gInt1 (wCons (wVar 0) wNil)) (wVar 1)) wNil))))
def w__law_divisor (K : PySem.W.Frag) : SW := (wSq (wPar 0 1 (wCons (wCB gAbs (wCons (wVar 0) wNil)) (wCons (wCB gAbs (wCons (wVar 1) wNil)) wNil)))
  (wSq (l1__law_divisor K)
  (wRet (wVar 0))))
def fs__law_divisor (K : PySem.W.Frag) : FS := fun cs q _ => ∃ (a b : Int), cs = [.dat (.int a), .dat (.int b)] ∧ b.natAbs < 2 ^ 400 ∧ q (.int (Nat.gcd a.natAbs b.natAbs : Nat)) cs
def fibP : Nat → Nat × Nat
  | 0 => (0, 1)
  | n + 1 => ((fibP n).2, (fibP n).1 + (fibP n).2)
theorem fib_big : 2 ^ 400 ≤ (fibP 599).2 := by decide +kernel
/-- behind i turns, i above 0 -/
def FibI (b i m n : Nat) : Prop := n < m ∧ (fibP (i - 1)).2 * m + (fibP (i - 1)).1 * n ≤ b
theorem gcd_step {m n g i b : Nat} (hn : 0 < n) (hg : Nat.gcd m n = g) (h0 : i = 0 → n = b) (h1 : 0 < i → FibI b i m n) :
    Nat.gcd n (m % n) = g ∧ FibI b (i + 1) n (m % n) := by
  have hl : m % n < n := Nat.mod_lt m hn
  refine ⟨by rw [← hg, Nat.gcd_comm m n, Nat.gcd_rec n m, Nat.gcd_comm], hl, ?_⟩
  cases i with
  | zero =>
    have := h0 rfl
    show (fibP 0).2 * n + (fibP 0).1 * (m % n) ≤ b
    simp only [fibP]
    omega
  | succ i =>
    obtain ⟨a1, a2⟩ := h1 (Nat.succ_pos i)
    have a2 : (fibP i).2 * m + (fibP i).1 * n ≤ b := a2
    show ((fibP i).1 + (fibP i).2) * n + (fibP i).2 * (m % n) ≤ b
    have e := Nat.div_add_mod m n
    have q1 : 1 ≤ m / n := Nat.div_pos (Nat.le_of_lt a1) hn
    have q2 : n * 1 ≤ n * (m / n) := Nat.mul_le_mul_left n q1
    have q3 : n + m % n ≤ m := by omega
    have q4 := Nat.mul_le_mul_left (fibP i).2 q3
    rw [Nat.mul_add] at q4
    rw [Nat.add_mul]
    omega
theorem gcd_end {m n b : Nat} (hb : b < 2 ^ 400) (h1 : FibI b 600 m n) : n = 0 := by
  obtain ⟨a1, a2⟩ := h1
  have a2 : (fibP 599).2 * m + (fibP 599).1 * n ≤ b := a2
  cases n with
  | zero => rfl
  | succ n =>
    have hm : 1 ≤ m := by omega
    have := Nat.mul_le_mul_left (fibP 599).2 hm
    have := fib_big
    omega
theorem abs_nat (a : Int) : (if a < 0 then -a else a) = ((a.natAbs : Nat) : Int) := by split <;> omega
def InvDiv (a b i : Nat) (τ : List Cell) : Prop := ∃ (m n : Nat) (c : Cell), τ = [.dat (.int m), .dat (.int n), c] ∧ Nat.gcd m n = Nat.gcd a b ∧ (i = 0 → n = b) ∧ (0 < i → FibI b i m n)
theorem l1__law_divisor_ok {a b : Nat} {c2 : Cell} {E : EndsD} (hb : b < 2 ^ 400) (hq : ∀ (n : Nat) (c : Cell), E.nx [.dat (.int (Nat.gcd a b : Nat)), .dat (.int n), c]) :
    l1__law_divisor K E [.dat (.int a), .dat (.int b), c2] := by
  unfold l1__law_divisor wFor
  refine ⟨600, rfl, by decide, by decide, InvDiv a b, ⟨a, b, c2, rfl, rfl, fun _ => rfl, fun h => absurd h (Nat.lt_irrefl _)⟩, ?_, ?_⟩
  · rintro i d τ2 hd ⟨m, n, c, rfl, hg, h0, h1⟩
    simp only [wAsg2, wTold2, wEnumB, wListOfOwn, wRetOwnG, dcOf, wIsiT, offE, D.adr.injEq, Cont.pool.injEq, ixN31, ne_eq, List.map_cons, List.map_nil, wRaise0, wRaise1, wFrz, wEnumT, wDict0, wDict1, numD3, Nat.reduceAdd, atI0, atI1, atI2, atI3, atI4, ixN51, ixN52, ixN53, List.length_map, scal, V.int.injEq, V.str.injEq, V.bl.injEq, wSq, wNext, wBreak, wDrop, wRet, wIfS, wAsg, wPar, wLstOwn, wAppend, wSetOwn, wIxOwn, wPeek, wRetFr, wFor, wB, wNot, wAnd, wOr, wAndV, wOrV, wNotV, wChain, wNil, wCons, wCB, wTup, wLst, wNoPart, wPart, wSlT, wSeq, wRng1, wRng2, wZip, wName, wNilT, wConsT, wTupT, wYes, wNeg, wVar, wC, wOp, wcNil, wcCons, wcOwn, wCall, wCallOwn, slots, cellsOf, OwnArgs, putBack, g2I, g2IC, gLen, gAbs, gGcd, gInt1, gTupleOf, gListOf, gIx, gCatT, gCat, gEq, gNe, gIsN, gNotN, scD, seqD_t, seqD_l, seqD_f, isNonD, List.nodup_cons, List.mem_cons, List.not_mem_nil, or_false, not_false_eq_true, Nat.reduceEqDiff, L3.Keeps, ends, wipeD, List.replicate, List.cons_append, List.nil_append, List.append_nil, List.getElem?_cons_zero, List.getElem?_cons_succ, List.set_cons_zero, List.set_cons_succ, List.getD_cons_zero, List.getD_cons_succ, List.length_cons, List.length_nil, List.nodup_nil, Option.some.injEq, Cell.dat.injEq, Cell.own.injEq, Cont.lst.injEq, D.bl.injEq, D.int.injEq, D.str.injEq, D.tup.injEq, D.lst.injEq, Arg.d.injEq, List.cons.injEq, exists_and_left, exists_and_right, exists_eq_left', exists_eq_left, exists_eq_right, exists_eq_right', exists_eq, exists_eq', and_true, true_and, and_assoc, and_self, exists_const, reduceCtorEq, web_wE, web_pE, webD_inj]
    by_cases hn : n = 0
    · subst hn
      rw [Nat.gcd_zero_right] at hg
      refine ⟨fun _ => ?_, fun z => ?_⟩
      · rw [hg]; exact hq 0 _
      · simp at z
    · refine ⟨fun z => ?_, fun _ => ?_⟩
      · simp at z; omega
      · have hn' : 0 < n := Nat.pos_of_ne_zero hn
        obtain ⟨g1, g2⟩ := gcd_step hn' hg h0 h1
        refine ⟨by omega, ?_⟩
        exact ⟨n, m % n, _, rfl, g1, fun z => absurd z (Nat.succ_ne_zero i), fun _ => g2⟩
  · rintro τ2 ⟨m, n, c, rfl, hg, h0, h1⟩
    rw [rangeD_length] at h0 h1
    have hn := gcd_end hb (h1 (by decide))
    subst hn
    rw [Nat.gcd_zero_right] at hg
    rw [hg]
    exact hq 0 c
theorem pure__law_divisor : PureD 2 1 (fs__law_divisor K) (w__law_divisor K) := by
  rintro cs q e - ⟨a, b, rfl, hb, hq⟩
  simp only [w__law_divisor, abs_nat, wAsg2, wTold2, wEnumB, wListOfOwn, wRetOwnG, dcOf, wIsiT, offE, D.adr.injEq, Cont.pool.injEq, ixN31, ne_eq, List.map_cons, List.map_nil, wRaise0, wRaise1, wFrz, wEnumT, wDict0, wDict1, numD3, Nat.reduceAdd, atI0, atI1, atI2, atI3, atI4, ixN51, ixN52, ixN53, List.length_map, scal, V.int.injEq, V.str.injEq, V.bl.injEq, wSq, wNext, wBreak, wDrop, wRet, wIfS, wAsg, wPar, wLstOwn, wAppend, wSetOwn, wIxOwn, wPeek, wRetFr, wFor, wB, wNot, wAnd, wOr, wAndV, wOrV, wNotV, wChain, wNil, wCons, wCB, wTup, wLst, wNoPart, wPart, wSlT, wSeq, wRng1, wRng2, wZip, wName, wNilT, wConsT, wTupT, wYes, wNeg, wVar, wC, wOp, wcNil, wcCons, wcOwn, wCall, wCallOwn, slots, cellsOf, OwnArgs, putBack, g2I, g2IC, gLen, gAbs, gGcd, gInt1, gTupleOf, gListOf, gIx, gCatT, gCat, gEq, gNe, gIsN, gNotN, scD, seqD_t, seqD_l, seqD_f, isNonD, List.nodup_cons, List.mem_cons, List.not_mem_nil, or_false, not_false_eq_true, Nat.reduceEqDiff, L3.Keeps, ends, wipeD, List.replicate, List.cons_append, List.nil_append, List.append_nil, List.getElem?_cons_zero, List.getElem?_cons_succ, List.set_cons_zero, List.set_cons_succ, List.getD_cons_zero, List.getD_cons_succ, List.length_cons, List.length_nil, List.nodup_nil, Option.some.injEq, Cell.dat.injEq, Cell.own.injEq, Cont.lst.injEq, D.bl.injEq, D.int.injEq, D.str.injEq, D.tup.injEq, D.lst.injEq, Arg.d.injEq, List.cons.injEq, exists_and_left, exists_and_right, exists_eq_left', exists_eq_left, exists_eq_right, exists_eq_right', exists_eq, exists_eq', and_true, true_and, and_assoc, and_self, exists_const, reduceCtorEq, web_wE, web_pE, webD_inj]
  refine l1__law_divisor_ok hb fun n c => ?_
  simp only [wAsg2, wTold2, wEnumB, wListOfOwn, wRetOwnG, dcOf, wIsiT, offE, D.adr.injEq, Cont.pool.injEq, ixN31, ne_eq, List.map_cons, List.map_nil, wRaise0, wRaise1, wFrz, wEnumT, wDict0, wDict1, numD3, Nat.reduceAdd, atI0, atI1, atI2, atI3, atI4, ixN51, ixN52, ixN53, List.length_map, scal, V.int.injEq, V.str.injEq, V.bl.injEq, wSq, wNext, wBreak, wDrop, wRet, wIfS, wAsg, wPar, wLstOwn, wAppend, wSetOwn, wIxOwn, wPeek, wRetFr, wFor, wB, wNot, wAnd, wOr, wAndV, wOrV, wNotV, wChain, wNil, wCons, wCB, wTup, wLst, wNoPart, wPart, wSlT, wSeq, wRng1, wRng2, wZip, wName, wNilT, wConsT, wTupT, wYes, wNeg, wVar, wC, wOp, wcNil, wcCons, wcOwn, wCall, wCallOwn, slots, cellsOf, OwnArgs, putBack, g2I, g2IC, gLen, gAbs, gGcd, gInt1, gTupleOf, gListOf, gIx, gCatT, gCat, gEq, gNe, gIsN, gNotN, scD, seqD_t, seqD_l, seqD_f, isNonD, List.nodup_cons, List.mem_cons, List.not_mem_nil, or_false, not_false_eq_true, Nat.reduceEqDiff, L3.Keeps, ends, wipeD, List.replicate, List.cons_append, List.nil_append, List.append_nil, List.getElem?_cons_zero, List.getElem?_cons_succ, List.set_cons_zero, List.set_cons_succ, List.getD_cons_zero, List.getD_cons_succ, List.length_cons, List.length_nil, List.nodup_nil, Option.some.injEq, Cell.dat.injEq, Cell.own.injEq, Cont.lst.injEq, D.bl.injEq, D.int.injEq, D.str.injEq, D.tup.injEq, D.lst.injEq, Arg.d.injEq, List.cons.injEq, exists_and_left, exists_and_right, exists_eq_left', exists_eq_left, exists_eq_right, exists_eq_right', exists_eq, exists_eq', and_true, true_and, and_assoc, and_self, exists_const, reduceCtorEq, web_wE, web_pE, webD_inj]
  exact hq
theorem ok__law_divisor (T : Txt K mg) : FnOk P w K mg base (L2.CX P w) 1 T.f__law_divisor T.fd__law_divisor ["one", "other"] (spOf K 2 (fs__law_divisor K)) := by
  refine def_ok T.F__law_divisor sc__law_divisor (wb := w__law_divisor K) pure__law_divisor ?_
  intro cdv A outer s H E hr tk
  exact ⟨_, (pss_cons (ps_par (i := 0) (j := 1) (by rfl) sc__law_divisor.nd rfl rfl (by decide) rfl rfl (pa_cons (pe_callB call_abs (by rfl) T.z_abs (by decide +kernel) (pa_cons (pv 0) pa_nil)) (pa_cons (pe_callB call_abs (by rfl) T.z_abs (by decide +kernel) (pa_cons (pv 1) pa_nil)) pa_nil)) (by rfl))
      (pss_cons (ps_for (passes_of rfl) rfl (pi_range1 (by rfl) T.z_range (pa_cons pe_int pa_nil)) (pg_name (i := 2) sc__law_divisor.nd rfl (by first | exact Or.inl rfl | exact Or.inr rfl))
        (pss_cons (ps_if (pt_cmpR op_eq (pv 1) pe_int (nomark _))
        (pss_one ps_break)
        pss_nil)
      (pss_one (ps_par (i := 0) (j := 1) (by rfl) sc__law_divisor.nd rfl rfl (by decide) rfl rfl (pa_cons (pv 1) (pa_cons (pe_op op_mod (pe_callTy call_int1 (by rfl) T.z_int (by decide +kernel) (pa_cons (pv 0) pa_nil)) (pv 1)) pa_nil)) (by rfl)))))
      (pss_one (ps_ret (pv 0))))),
    (ds_seq (ds_par (i := 0) (j := 1) (da_cons (de_cb o_abs (da_cons (de_var 0) da_nil)) (da_cons (de_cb o_abs (da_cons (de_var 1) da_nil)) da_nil)))
      (ds_seq (ds_for (wI := (wRng1 (wCons (wC (.int 600)) wNil))) (wg := (wName 2)) (wb := (wSq (wIfS (wB (wOp gEq (wVar 1) (wC (.int 0)))) wBreak wNext)
  (wPar 0 1 (wCons (wVar 1) (wCons (wOp gModI (wCB gInt1 (wCons (wVar 0) wNil)) (wVar 1)) wNil))))) (di_rng1 (da_cons de_int da_nil)) (dg_name 2) (ds_seq (ds_if (dt_B (de_op o_eq (de_var 1) de_int)) ds_break ds_nil)
      (ds_par (i := 0) (j := 1) (da_cons (de_var 1) (da_cons (de_op o_mod (de_cb o_int1 (da_cons (de_var 0) da_nil)) (de_var 1)) da_nil)))))
      (ds_ret (de_var 0))))⟩
abbrev s__law_made : Stmt := topS 41
theorem sc__law_made : FnScope ["top", "bottom", "part"] ["top", "bottom"] (defScope s__law_made) := ⟨rfl, rfl, rfl, by decide +kernel, rfl, by decide +kernel, by decide +kernel⟩
def w__law_made (K : PySem.W.Frag) : SW := (wSq (wAsg (wCall 2 (fs__law_divisor K) (wcCons (wVar 0) (wcCons (wVar 1) wcNil))) (wName 2))
  (wRet (wTup (wCons (wOp gDivW (wVar 0) (wVar 2)) (wCons (wOp gDivW (wVar 1) (wVar 2)) wNil)))))
def fs__law_made (K : PySem.W.Frag) : FS := fun cs q _ => ∃ (t b : Int), cs = [.dat (.int t), .dat (.int b)] ∧ 0 < b ∧ b.natAbs < 2 ^ 400 ∧ q (nf t b) cs
theorem pure__law_made : PureD 2 1 (fs__law_made K) (w__law_made K) := by
  rintro cs q e - ⟨t, b, rfl, h0, h2, hq⟩
  simp only [w__law_made, fs__law_divisor, wAsg2, wTold2, wEnumB, wListOfOwn, wRetOwnG, dcOf, wIsiT, offE, D.adr.injEq, Cont.pool.injEq, ixN31, ne_eq, List.map_cons, List.map_nil, wRaise0, wRaise1, wFrz, wEnumT, wDict0, wDict1, numD3, Nat.reduceAdd, atI0, atI1, atI2, atI3, atI4, ixN51, ixN52, ixN53, List.length_map, scal, V.int.injEq, V.str.injEq, V.bl.injEq, wSq, wNext, wBreak, wDrop, wRet, wIfS, wAsg, wPar, wLstOwn, wAppend, wSetOwn, wIxOwn, wPeek, wRetFr, wFor, wB, wNot, wAnd, wOr, wAndV, wOrV, wNotV, wChain, wNil, wCons, wCB, wTup, wLst, wNoPart, wPart, wSlT, wSeq, wRng1, wRng2, wZip, wName, wNilT, wConsT, wTupT, wYes, wNeg, wVar, wC, wOp, wcNil, wcCons, wcOwn, wCall, wCallOwn, slots, cellsOf, OwnArgs, putBack, g2I, g2IC, gLen, gAbs, gGcd, gInt1, gTupleOf, gListOf, gIx, gCatT, gCat, gEq, gNe, gIsN, gNotN, scD, seqD_t, seqD_l, seqD_f, isNonD, List.nodup_cons, List.mem_cons, List.not_mem_nil, or_false, not_false_eq_true, Nat.reduceEqDiff, L3.Keeps, ends, wipeD, List.replicate, List.cons_append, List.nil_append, List.append_nil, List.getElem?_cons_zero, List.getElem?_cons_succ, List.set_cons_zero, List.set_cons_succ, List.getD_cons_zero, List.getD_cons_succ, List.length_cons, List.length_nil, List.nodup_nil, Option.some.injEq, Cell.dat.injEq, Cell.own.injEq, Cont.lst.injEq, D.bl.injEq, D.int.injEq, D.str.injEq, D.tup.injEq, D.lst.injEq, Arg.d.injEq, List.cons.injEq, exists_and_left, exists_and_right, exists_eq_left', exists_eq_left, exists_eq_right, exists_eq_right', exists_eq, exists_eq', and_true, true_and, and_assoc, and_self, exists_const, reduceCtorEq, web_wE, web_pE, webD_inj]
  have w := gcd_w (t := t) h0 (Nat.lt_of_lt_of_le h2 (pow_le (by decide)))
  exact ⟨h2, w _, w _, by decide, hq⟩
theorem ok__law_made (T : Txt K mg) : FnOk P w K mg base (L2.CX P w) 2 T.f__law_made T.fd__law_made ["top", "bottom"] (spOf K 2 (fs__law_made K)) := by
  refine def_ok T.F__law_made sc__law_made (wb := w__law_made K) pure__law_made ?_
  intro cdv A outer s H E hr tk
  exact ⟨_, (pss_cons (ps_set (i := 2) sc__law_made.nd rfl (by first | exact Or.inl rfl | exact Or.inr rfl) (pe_callS (ok__law_divisor T) (hr.mono (by decide)) rfl T.g__law_divisor T.k__law_divisor T.b__law_divisor (fun σ => passAt tk σ) (pa_cons (pv 0) (pa_cons (pv 1) pa_nil))))
      (pss_one (ps_ret (pe_tup (pa_cons (pe_op op_fdivW (pv 0) (pv 2)) (pa_cons (pe_op op_fdivW (pv 1) (pv 2)) pa_nil)))))),
    (ds_seq (ds_asg (de_call (n := 2) (fs := fs__law_divisor K) (dac_cons (de_var 0) (dac_cons (de_var 1) dac_nil))) (dg_name 2))
      (ds_ret (de_tup (da_cons (de_op o_fdivW (de_var 0) (de_var 2)) (da_cons (de_op o_fdivW (de_var 1) (de_var 2)) da_nil)))))⟩
abbrev s__law_same : Stmt := topS 44
theorem sc__law_same : FnScope ["actual", "expected", "k"] ["actual", "expected"] (defScope s__law_same) := ⟨rfl, rfl, rfl, by decide +kernel, rfl, by decide +kernel, by decide +kernel⟩
def l1__law_same (K : PySem.W.Frag) (R : FS) : SW := wFor (wRng1 (wCons (wCB gLen (wCons (wVar 1) wNil)) wNil)) (wName 2) (wIfS (wNot (wB (wCall 2 R (wcCons (wOp gIx (wVar 0) (wVar 2)) (wcCons (wOp gIx (wVar 1) (wVar 2)) wcNil))))) (wRet (wC (.bl false))) wNext)
def w__law_same (K : PySem.W.Frag) (R : FS) : SW := (wSq (wIfS (wB (wOp gIsN (wVar 1) (wC .non))) (wRet (wOp gIsN (wVar 0) (wC .non))) wNext)
  (wSq (wIfS (wB (wCB (gIsi K) (wCons (wVar 1) (wCons (wC (.ty "bool")) wNil)))) (wRet (wAndV (wCB (gIsi K) (wCons (wVar 0) (wCons (wC (.ty "bool")) wNil))) (wOp gEqD (wVar 0) (wVar 1)))) wNext)
  (wSq (wIfS (wB (wCB (gIsi K) (wCons (wVar 1) (wCons (wC (.ty "int")) wNil)))) (wRet (wAndV (wCB (gIsi K) (wCons (wVar 0) (wCons (wC (.ty "int")) wNil))) (wAndV (wNotV (wCB (gIsi K) (wCons (wVar 0) (wCons (wC (.ty "bool")) wNil)))) (wOp gEqD (wVar 0) (wVar 1))))) wNext)
  (wSq (wIfS (wB (wCB (gIsi K) (wCons (wVar 1) (wCons (wC (.ty "str")) wNil)))) (wRet (wAndV (wCB (gIsi K) (wCons (wVar 0) (wCons (wC (.ty "str")) wNil))) (wOp gEqD (wVar 0) (wVar 1)))) wNext)
  (wSq (wIfS (wAnd (wB (wCB (gIsi K) (wCons (wVar 1) (wCons (wC (.ty "tuple")) wNil)))) (wNot (wB (wCB (gIsi K) (wCons (wVar 0) (wCons (wC (.ty "tuple")) wNil)))))) (wRet (wC (.bl false))) wNext)
  (wSq (wIfS (wAnd (wB (wCB (gIsi K) (wCons (wVar 1) (wCons (wC (.ty "list")) wNil)))) (wNot (wB (wCB (gIsi K) (wCons (wVar 0) (wCons (wC (.ty "list")) wNil)))))) (wRet (wC (.bl false))) wNext)
  (wSq (wIfS (wB (wOp gNe (wCB gLen (wCons (wVar 0) wNil)) (wCB gLen (wCons (wVar 1) wNil)))) (wRet (wC (.bl false))) wNext)
  (wSq (l1__law_same K R)
  (wRet (wC (.bl true)))))))))))
/-- things that are held one against the other, n deep at most -/
def SameD : Nat → D → Prop
  | 0, _ => False
  | _ + 1, .non => True
  | _ + 1, .bl _ => True
  | _ + 1, .int _ => True
  | _ + 1, .str x => SeqAt.shaped (.str x) = true
  | n + 1, .tup ds => ds.length ≤ 1000 ∧ ∀ d ∈ ds, SameD n d
  | n + 1, .lst ds => ds.length ≤ 1000 ∧ ∀ d ∈ ds, SameD n d
  | _ + 1, _ => False
theorem sameD_ok : ∀ {n : Nat} {d : D}, SameD n d → OkD K d
  | 0, _, h => h.elim
  | n + 1, .non, _ => by unfold OkD; trivial
  | n + 1, .bl _, _ => by unfold OkD; trivial
  | n + 1, .int _, _ => by unfold OkD; trivial
  | n + 1, .str _, _ => by unfold OkD; trivial
  | n + 1, .tup ds, h => by
    unfold OkD
    exact okDs_of fun d hd => sameD_ok (h.2 d hd)
  | n + 1, .lst ds, h => by
    unfold OkD
    exact okDs_of fun d hd => sameD_ok (h.2 d hd)
  | n + 1, .fl _, h => h.elim
  | n + 1, .ty _, h => h.elim
  | n + 1, .oth _, h => h.elim
  | n + 1, .ins _ _, h => h.elim
  | n + 1, .adr _, h => h.elim
  | n + 1, .dc _, h => h.elim
  | n + 1, .dtc _, h => h.elim
def fs__law_same (K : PySem.W.Frag) (n : Nat) : FS := fun cs q _ => ∃ d : D, cs = [.dat d, .dat d] ∧ SameD n d ∧ q (.bl true) cs
theorem l1__law_same_ok {n : Nat} {d : D} {ds : List D} {c : Cell} {E : EndsD} (hs : seqD d = some ds) (hl : ds.length ≤ 1000) (h : ∀ x ∈ ds, SameD n x) (hn : ∀ c, E.nx [.dat d, .dat d, c]) :
    l1__law_same K (fs__law_same K n) E [.dat d, .dat d, c] := by
  unfold l1__law_same wFor
  refine ⟨d, rfl, d, ds, rfl, hs, _, rfl, by omega, by omega, fun _ τ => ∃ c, τ = [.dat d, .dat d, c], ⟨c, rfl⟩, ?_, ?_⟩
  · rintro i x τ2 hi ⟨c, rfl⟩
    have hlt : i < ds.length := by
      have := (List.getElem?_eq_some_iff.mp hi).1
      rw [rangeD_length] at this
      omega
    rw [rangeD_get (by omega)] at hi
    cases hi
    have e1 : ds[i]? = some ds[i] := List.getElem?_eq_getElem hlt
    have f1 : atI ds (0 + (i : Nat)) = some ds[i] := by
      have : (0 : Int) + (i : Nat) = ((i : Nat) : Int) := by omega
      rw [this]
      exact atI_nat' e1
    simp only [fs__law_same, hs, f1, wAsg2, wTold2, wEnumB, wListOfOwn, wRetOwnG, dcOf, wIsiT, offE, D.adr.injEq, Cont.pool.injEq, ixN31, ne_eq, List.map_cons, List.map_nil, wRaise0, wRaise1, wFrz, wEnumT, wDict0, wDict1, numD3, Nat.reduceAdd, atI0, atI1, atI2, atI3, atI4, ixN51, ixN52, ixN53, List.length_map, scal, V.int.injEq, V.str.injEq, V.bl.injEq, wSq, wNext, wBreak, wDrop, wRet, wIfS, wAsg, wPar, wLstOwn, wAppend, wSetOwn, wIxOwn, wPeek, wRetFr, wFor, wB, wNot, wAnd, wOr, wAndV, wOrV, wNotV, wChain, wNil, wCons, wCB, wTup, wLst, wNoPart, wPart, wSlT, wSeq, wRng1, wRng2, wZip, wName, wNilT, wConsT, wTupT, wYes, wNeg, wVar, wC, wOp, wcNil, wcCons, wcOwn, wCall, wCallOwn, slots, cellsOf, OwnArgs, putBack, g2I, g2IC, gLen, gAbs, gGcd, gInt1, gTupleOf, gListOf, gIx, gCatT, gCat, gEq, gNe, gIsN, gNotN, scD, seqD_t, seqD_l, seqD_f, isNonD, List.nodup_cons, List.mem_cons, List.not_mem_nil, or_false, not_false_eq_true, Nat.reduceEqDiff, L3.Keeps, ends, wipeD, List.replicate, List.cons_append, List.nil_append, List.append_nil, List.getElem?_cons_zero, List.getElem?_cons_succ, List.set_cons_zero, List.set_cons_succ, List.getD_cons_zero, List.getD_cons_succ, List.length_cons, List.length_nil, List.nodup_nil, Option.some.injEq, Cell.dat.injEq, Cell.own.injEq, Cont.lst.injEq, D.bl.injEq, D.int.injEq, D.str.injEq, D.tup.injEq, D.lst.injEq, Arg.d.injEq, List.cons.injEq, exists_and_left, exists_and_right, exists_eq_left', exists_eq_left, exists_eq_right, exists_eq_right', exists_eq, exists_eq', and_true, true_and, and_assoc, and_self, exists_const, reduceCtorEq, web_wE, web_pE, webD_inj]
    refine ⟨h _ (List.getElem_mem hlt), ?_⟩
    simp
  · rintro τ2 ⟨c, rfl⟩
    exact hn c
theorem pure__law_same {n : Nat} : PureD 2 1 (fs__law_same K (n + 1)) (w__law_same K (fs__law_same K n)) := by
  rintro cs q e - ⟨d, rfl, hs, hq⟩
  have ok : OkD K d := sameD_ok hs
  cases d with
  | non =>
    simp only [w__law_same, wAsg2, wTold2, wEnumB, wListOfOwn, wRetOwnG, dcOf, wIsiT, offE, D.adr.injEq, Cont.pool.injEq, ixN31, ne_eq, List.map_cons, List.map_nil, wRaise0, wRaise1, wFrz, wEnumT, wDict0, wDict1, numD3, Nat.reduceAdd, atI0, atI1, atI2, atI3, atI4, ixN51, ixN52, ixN53, List.length_map, scal, V.int.injEq, V.str.injEq, V.bl.injEq, wSq, wNext, wBreak, wDrop, wRet, wIfS, wAsg, wPar, wLstOwn, wAppend, wSetOwn, wIxOwn, wPeek, wRetFr, wFor, wB, wNot, wAnd, wOr, wAndV, wOrV, wNotV, wChain, wNil, wCons, wCB, wTup, wLst, wNoPart, wPart, wSlT, wSeq, wRng1, wRng2, wZip, wName, wNilT, wConsT, wTupT, wYes, wNeg, wVar, wC, wOp, wcNil, wcCons, wcOwn, wCall, wCallOwn, slots, cellsOf, OwnArgs, putBack, g2I, g2IC, gLen, gAbs, gGcd, gInt1, gTupleOf, gListOf, gIx, gCatT, gCat, gEq, gNe, gIsN, gNotN, scD, seqD_t, seqD_l, seqD_f, isNonD, List.nodup_cons, List.mem_cons, List.not_mem_nil, or_false, not_false_eq_true, Nat.reduceEqDiff, L3.Keeps, ends, wipeD, List.replicate, List.cons_append, List.nil_append, List.append_nil, List.getElem?_cons_zero, List.getElem?_cons_succ, List.set_cons_zero, List.set_cons_succ, List.getD_cons_zero, List.getD_cons_succ, List.length_cons, List.length_nil, List.nodup_nil, Option.some.injEq, Cell.dat.injEq, Cell.own.injEq, Cont.lst.injEq, D.bl.injEq, D.int.injEq, D.str.injEq, D.tup.injEq, D.lst.injEq, Arg.d.injEq, List.cons.injEq, exists_and_left, exists_and_right, exists_eq_left', exists_eq_left, exists_eq_right, exists_eq_right', exists_eq, exists_eq', and_true, true_and, and_assoc, and_self, exists_const, reduceCtorEq, web_wE, web_pE, webD_inj]
    simpa using hq
  | bl b =>
    simp only [w__law_same, gIsi_iff ok (show "bool" ∈ kinds by simp), isiD, wAsg2, wTold2, wEnumB, wListOfOwn, wRetOwnG, dcOf, wIsiT, offE, D.adr.injEq, Cont.pool.injEq, ixN31, ne_eq, List.map_cons, List.map_nil, wRaise0, wRaise1, wFrz, wEnumT, wDict0, wDict1, numD3, Nat.reduceAdd, atI0, atI1, atI2, atI3, atI4, ixN51, ixN52, ixN53, List.length_map, scal, V.int.injEq, V.str.injEq, V.bl.injEq, wSq, wNext, wBreak, wDrop, wRet, wIfS, wAsg, wPar, wLstOwn, wAppend, wSetOwn, wIxOwn, wPeek, wRetFr, wFor, wB, wNot, wAnd, wOr, wAndV, wOrV, wNotV, wChain, wNil, wCons, wCB, wTup, wLst, wNoPart, wPart, wSlT, wSeq, wRng1, wRng2, wZip, wName, wNilT, wConsT, wTupT, wYes, wNeg, wVar, wC, wOp, wcNil, wcCons, wcOwn, wCall, wCallOwn, slots, cellsOf, OwnArgs, putBack, g2I, g2IC, gLen, gAbs, gGcd, gInt1, gTupleOf, gListOf, gIx, gCatT, gCat, gEq, gNe, gIsN, gNotN, scD, seqD_t, seqD_l, seqD_f, isNonD, List.nodup_cons, List.mem_cons, List.not_mem_nil, or_false, not_false_eq_true, Nat.reduceEqDiff, L3.Keeps, ends, wipeD, List.replicate, List.cons_append, List.nil_append, List.append_nil, List.getElem?_cons_zero, List.getElem?_cons_succ, List.set_cons_zero, List.set_cons_succ, List.getD_cons_zero, List.getD_cons_succ, List.length_cons, List.length_nil, List.nodup_nil, Option.some.injEq, Cell.dat.injEq, Cell.own.injEq, Cont.lst.injEq, D.bl.injEq, D.int.injEq, D.str.injEq, D.tup.injEq, D.lst.injEq, Arg.d.injEq, List.cons.injEq, exists_and_left, exists_and_right, exists_eq_left', exists_eq_left, exists_eq_right, exists_eq_right', exists_eq, exists_eq', and_true, true_and, and_assoc, and_self, exists_const, reduceCtorEq, web_wE, web_pE, webD_inj]
    simp
    exact gEqD_refl (p := .bool b) rfl rfl hq
  | int i =>
    simp only [w__law_same, gIsi_iff ok (show "int" ∈ kinds by simp), gIsi_iff ok (show "bool" ∈ kinds by simp), isiD, wAsg2, wTold2, wEnumB, wListOfOwn, wRetOwnG, dcOf, wIsiT, offE, D.adr.injEq, Cont.pool.injEq, ixN31, ne_eq, List.map_cons, List.map_nil, wRaise0, wRaise1, wFrz, wEnumT, wDict0, wDict1, numD3, Nat.reduceAdd, atI0, atI1, atI2, atI3, atI4, ixN51, ixN52, ixN53, List.length_map, scal, V.int.injEq, V.str.injEq, V.bl.injEq, wSq, wNext, wBreak, wDrop, wRet, wIfS, wAsg, wPar, wLstOwn, wAppend, wSetOwn, wIxOwn, wPeek, wRetFr, wFor, wB, wNot, wAnd, wOr, wAndV, wOrV, wNotV, wChain, wNil, wCons, wCB, wTup, wLst, wNoPart, wPart, wSlT, wSeq, wRng1, wRng2, wZip, wName, wNilT, wConsT, wTupT, wYes, wNeg, wVar, wC, wOp, wcNil, wcCons, wcOwn, wCall, wCallOwn, slots, cellsOf, OwnArgs, putBack, g2I, g2IC, gLen, gAbs, gGcd, gInt1, gTupleOf, gListOf, gIx, gCatT, gCat, gEq, gNe, gIsN, gNotN, scD, seqD_t, seqD_l, seqD_f, isNonD, List.nodup_cons, List.mem_cons, List.not_mem_nil, or_false, not_false_eq_true, Nat.reduceEqDiff, L3.Keeps, ends, wipeD, List.replicate, List.cons_append, List.nil_append, List.append_nil, List.getElem?_cons_zero, List.getElem?_cons_succ, List.set_cons_zero, List.set_cons_succ, List.getD_cons_zero, List.getD_cons_succ, List.length_cons, List.length_nil, List.nodup_nil, Option.some.injEq, Cell.dat.injEq, Cell.own.injEq, Cont.lst.injEq, D.bl.injEq, D.int.injEq, D.str.injEq, D.tup.injEq, D.lst.injEq, Arg.d.injEq, List.cons.injEq, exists_and_left, exists_and_right, exists_eq_left', exists_eq_left, exists_eq_right, exists_eq_right', exists_eq, exists_eq', and_true, true_and, and_assoc, and_self, exists_const, reduceCtorEq, web_wE, web_pE, webD_inj]
    simp
    exact gEqD_refl (p := .int i) rfl rfl hq
  | str x =>
    simp only [w__law_same, gIsi_iff ok (show "int" ∈ kinds by simp), gIsi_iff ok (show "bool" ∈ kinds by simp), gIsi_iff ok (show "str" ∈ kinds by simp), isiD, wAsg2, wTold2, wEnumB, wListOfOwn, wRetOwnG, dcOf, wIsiT, offE, D.adr.injEq, Cont.pool.injEq, ixN31, ne_eq, List.map_cons, List.map_nil, wRaise0, wRaise1, wFrz, wEnumT, wDict0, wDict1, numD3, Nat.reduceAdd, atI0, atI1, atI2, atI3, atI4, ixN51, ixN52, ixN53, List.length_map, scal, V.int.injEq, V.str.injEq, V.bl.injEq, wSq, wNext, wBreak, wDrop, wRet, wIfS, wAsg, wPar, wLstOwn, wAppend, wSetOwn, wIxOwn, wPeek, wRetFr, wFor, wB, wNot, wAnd, wOr, wAndV, wOrV, wNotV, wChain, wNil, wCons, wCB, wTup, wLst, wNoPart, wPart, wSlT, wSeq, wRng1, wRng2, wZip, wName, wNilT, wConsT, wTupT, wYes, wNeg, wVar, wC, wOp, wcNil, wcCons, wcOwn, wCall, wCallOwn, slots, cellsOf, OwnArgs, putBack, g2I, g2IC, gLen, gAbs, gGcd, gInt1, gTupleOf, gListOf, gIx, gCatT, gCat, gEq, gNe, gIsN, gNotN, scD, seqD_t, seqD_l, seqD_f, isNonD, List.nodup_cons, List.mem_cons, List.not_mem_nil, or_false, not_false_eq_true, Nat.reduceEqDiff, L3.Keeps, ends, wipeD, List.replicate, List.cons_append, List.nil_append, List.append_nil, List.getElem?_cons_zero, List.getElem?_cons_succ, List.set_cons_zero, List.set_cons_succ, List.getD_cons_zero, List.getD_cons_succ, List.length_cons, List.length_nil, List.nodup_nil, Option.some.injEq, Cell.dat.injEq, Cell.own.injEq, Cont.lst.injEq, D.bl.injEq, D.int.injEq, D.str.injEq, D.tup.injEq, D.lst.injEq, Arg.d.injEq, List.cons.injEq, exists_and_left, exists_and_right, exists_eq_left', exists_eq_left, exists_eq_right, exists_eq_right', exists_eq, exists_eq', and_true, true_and, and_assoc, and_self, exists_const, reduceCtorEq, web_wE, web_pE, webD_inj]
    simp
    exact gEqD_refl (p := .str x) rfl hs hq
  | tup ds =>
    simp only [w__law_same, gIsi_iff ok (show "int" ∈ kinds by simp), gIsi_iff ok (show "bool" ∈ kinds by simp), gIsi_iff ok (show "str" ∈ kinds by simp), gIsi_iff ok (show "tuple" ∈ kinds by simp), gIsi_iff ok (show "list" ∈ kinds by simp), isiD, seqD_t, wAsg2, wTold2, wEnumB, wListOfOwn, wRetOwnG, dcOf, wIsiT, offE, D.adr.injEq, Cont.pool.injEq, ixN31, ne_eq, List.map_cons, List.map_nil, wRaise0, wRaise1, wFrz, wEnumT, wDict0, wDict1, numD3, Nat.reduceAdd, atI0, atI1, atI2, atI3, atI4, ixN51, ixN52, ixN53, List.length_map, scal, V.int.injEq, V.str.injEq, V.bl.injEq, wSq, wNext, wBreak, wDrop, wRet, wIfS, wAsg, wPar, wLstOwn, wAppend, wSetOwn, wIxOwn, wPeek, wRetFr, wFor, wB, wNot, wAnd, wOr, wAndV, wOrV, wNotV, wChain, wNil, wCons, wCB, wTup, wLst, wNoPart, wPart, wSlT, wSeq, wRng1, wRng2, wZip, wName, wNilT, wConsT, wTupT, wYes, wNeg, wVar, wC, wOp, wcNil, wcCons, wcOwn, wCall, wCallOwn, slots, cellsOf, OwnArgs, putBack, g2I, g2IC, gLen, gAbs, gGcd, gInt1, gTupleOf, gListOf, gIx, gCatT, gCat, gEq, gNe, gIsN, gNotN, scD, seqD_t, seqD_l, seqD_f, isNonD, List.nodup_cons, List.mem_cons, List.not_mem_nil, or_false, not_false_eq_true, Nat.reduceEqDiff, L3.Keeps, ends, wipeD, List.replicate, List.cons_append, List.nil_append, List.append_nil, List.getElem?_cons_zero, List.getElem?_cons_succ, List.set_cons_zero, List.set_cons_succ, List.getD_cons_zero, List.getD_cons_succ, List.length_cons, List.length_nil, List.nodup_nil, Option.some.injEq, Cell.dat.injEq, Cell.own.injEq, Cont.lst.injEq, D.bl.injEq, D.int.injEq, D.str.injEq, D.tup.injEq, D.lst.injEq, Arg.d.injEq, List.cons.injEq, exists_and_left, exists_and_right, exists_eq_left', exists_eq_left, exists_eq_right, exists_eq_right', exists_eq, exists_eq', and_true, true_and, and_assoc, and_self, exists_const, reduceCtorEq, web_wE, web_pE, webD_inj]
    simp
    exact l1__law_same_ok rfl hs.1 hs.2 fun c => ⟨trivial, hq⟩
  | lst ds =>
    simp only [w__law_same, gIsi_iff ok (show "int" ∈ kinds by simp), gIsi_iff ok (show "bool" ∈ kinds by simp), gIsi_iff ok (show "str" ∈ kinds by simp), gIsi_iff ok (show "tuple" ∈ kinds by simp), gIsi_iff ok (show "list" ∈ kinds by simp), isiD, seqD_l, wAsg2, wTold2, wEnumB, wListOfOwn, wRetOwnG, dcOf, wIsiT, offE, D.adr.injEq, Cont.pool.injEq, ixN31, ne_eq, List.map_cons, List.map_nil, wRaise0, wRaise1, wFrz, wEnumT, wDict0, wDict1, numD3, Nat.reduceAdd, atI0, atI1, atI2, atI3, atI4, ixN51, ixN52, ixN53, List.length_map, scal, V.int.injEq, V.str.injEq, V.bl.injEq, wSq, wNext, wBreak, wDrop, wRet, wIfS, wAsg, wPar, wLstOwn, wAppend, wSetOwn, wIxOwn, wPeek, wRetFr, wFor, wB, wNot, wAnd, wOr, wAndV, wOrV, wNotV, wChain, wNil, wCons, wCB, wTup, wLst, wNoPart, wPart, wSlT, wSeq, wRng1, wRng2, wZip, wName, wNilT, wConsT, wTupT, wYes, wNeg, wVar, wC, wOp, wcNil, wcCons, wcOwn, wCall, wCallOwn, slots, cellsOf, OwnArgs, putBack, g2I, g2IC, gLen, gAbs, gGcd, gInt1, gTupleOf, gListOf, gIx, gCatT, gCat, gEq, gNe, gIsN, gNotN, scD, seqD_t, seqD_l, seqD_f, isNonD, List.nodup_cons, List.mem_cons, List.not_mem_nil, or_false, not_false_eq_true, Nat.reduceEqDiff, L3.Keeps, ends, wipeD, List.replicate, List.cons_append, List.nil_append, List.append_nil, List.getElem?_cons_zero, List.getElem?_cons_succ, List.set_cons_zero, List.set_cons_succ, List.getD_cons_zero, List.getD_cons_succ, List.length_cons, List.length_nil, List.nodup_nil, Option.some.injEq, Cell.dat.injEq, Cell.own.injEq, Cont.lst.injEq, D.bl.injEq, D.int.injEq, D.str.injEq, D.tup.injEq, D.lst.injEq, Arg.d.injEq, List.cons.injEq, exists_and_left, exists_and_right, exists_eq_left', exists_eq_left, exists_eq_right, exists_eq_right', exists_eq, exists_eq', and_true, true_and, and_assoc, and_self, exists_const, reduceCtorEq, web_wE, web_pE, webD_inj]
    simp
    exact l1__law_same_ok rfl hs.1 hs.2 fun c => ⟨trivial, hq⟩
  | fl _ => exact hs.elim
  | ty _ => exact hs.elim
  | oth _ => exact hs.elim
  | ins _ _ => exact hs.elim
  | adr _ => exact hs.elim
  | dc _ => exact hs.elim
  | dtc _ => exact hs.elim
theorem no__law_same {cs : List Cell} {q : D → List Cell → Prop} {e : Xn → List Cell → Prop} (h : fs__law_same K 0 cs q e) : False := by
  obtain ⟨d, _, hs, _⟩ := h
  exact hs
theorem ok__law_same (T : Txt K mg) : ∀ n, FnOk P w K mg base (L2.CX P w) n T.f__law_same T.fd__law_same ["actual", "expected"] (spOf K 2 (fs__law_same K n))
  | 0 => ⟨fun vs H Q E h => h.1, fun A outer s H args us vs Q E _ _ _ _ ⟨_, _, _, _, _, _, h, _⟩ => (no__law_same h).elim⟩
  | n + 1 => by
    have ih := ok__law_same T n
    refine def_ok T.F__law_same sc__law_same (wb := w__law_same K (fs__law_same K n)) pure__law_same ?_
    intro cdv A outer s H E hr tk
    exact ⟨_, (pss_cons (ps_if (pt_cmpR op_isN (pv 1) pe_non (nomark _))
        (pss_one (ps_ret (pe_cmpR op_isN (pv 0) pe_non (nomark _))))
        pss_nil)
      (pss_cons (ps_if (pt_val (pe_callB call_isi (by rfl) T.z_isinstance (by decide +kernel) (pa_cons (pv 1) (pa_cons (pe_bltn (v := .ty "bool") (by rfl) T.z_bool (by decide +kernel) rfl) pa_nil))))
        (pss_one (ps_ret (pe_and (pe_callB call_isi (by rfl) T.z_isinstance (by decide +kernel) (pa_cons (pv 0) (pa_cons (pe_bltn (v := .ty "bool") (by rfl) T.z_bool (by decide +kernel) rfl) pa_nil))) (pe_one (pe_cmpR (op_eqD hr.units) (pv 0) (pv 1) (nomark _))))))
        pss_nil)
      (pss_cons (ps_if (pt_val (pe_callB call_isi (by rfl) T.z_isinstance (by decide +kernel) (pa_cons (pv 1) (pa_cons (pe_bltn (v := .ty "int") (by rfl) T.z_int (by decide +kernel) rfl) pa_nil))))
        (pss_one (ps_ret (pe_and (pe_callB call_isi (by rfl) T.z_isinstance (by decide +kernel) (pa_cons (pv 0) (pa_cons (pe_bltn (v := .ty "int") (by rfl) T.z_int (by decide +kernel) rfl) pa_nil))) (pe_and (pe_not (pe_callB call_isi (by rfl) T.z_isinstance (by decide +kernel) (pa_cons (pv 0) (pa_cons (pe_bltn (v := .ty "bool") (by rfl) T.z_bool (by decide +kernel) rfl) pa_nil)))) (pe_one (pe_cmpR (op_eqD hr.units) (pv 0) (pv 1) (nomark _)))))))
        pss_nil)
      (pss_cons (ps_if (pt_val (pe_callB call_isi (by rfl) T.z_isinstance (by decide +kernel) (pa_cons (pv 1) (pa_cons (pe_bltn (v := .ty "str") (by rfl) T.z_str (by decide +kernel) rfl) pa_nil))))
        (pss_one (ps_ret (pe_and (pe_callB call_isi (by rfl) T.z_isinstance (by decide +kernel) (pa_cons (pv 0) (pa_cons (pe_bltn (v := .ty "str") (by rfl) T.z_str (by decide +kernel) rfl) pa_nil))) (pe_one (pe_cmpR (op_eqD hr.units) (pv 0) (pv 1) (nomark _))))))
        pss_nil)
      (pss_cons (ps_if (PW.pt (pw_and (pt_val (pe_callB call_isi (by rfl) T.z_isinstance (by decide +kernel) (pa_cons (pv 1) (pa_cons (pe_bltn (v := .ty "tuple") (by rfl) T.z_tuple (by decide +kernel) rfl) pa_nil)))) (pw_and1 (pt_not (pt_val (pe_callB call_isi (by rfl) T.z_isinstance (by decide +kernel) (pa_cons (pv 0) (pa_cons (pe_bltn (v := .ty "tuple") (by rfl) T.z_tuple (by decide +kernel) rfl) pa_nil))))))))
        (pss_one (ps_ret pe_bl))
        pss_nil)
      (pss_cons (ps_if (PW.pt (pw_and (pt_val (pe_callB call_isi (by rfl) T.z_isinstance (by decide +kernel) (pa_cons (pv 1) (pa_cons (pe_bltn (v := .ty "list") (by rfl) T.z_list (by decide +kernel) rfl) pa_nil)))) (pw_and1 (pt_not (pt_val (pe_callB call_isi (by rfl) T.z_isinstance (by decide +kernel) (pa_cons (pv 0) (pa_cons (pe_bltn (v := .ty "list") (by rfl) T.z_list (by decide +kernel) rfl) pa_nil))))))))
        (pss_one (ps_ret pe_bl))
        pss_nil)
      (pss_cons (ps_if (pt_cmpR op_ne (pe_callB call_len_seq (by rfl) T.z_len (by decide +kernel) (pa_cons (pv 0) pa_nil)) (pe_callB call_len_seq (by rfl) T.z_len (by decide +kernel) (pa_cons (pv 1) pa_nil)) (nomark _))
        (pss_one (ps_ret pe_bl))
        pss_nil)
      (pss_cons (ps_for (passes_of rfl) rfl (pi_range1 (by rfl) T.z_range (pa_cons (pe_callB call_len_seq (by rfl) T.z_len (by decide +kernel) (pa_cons (pv 1) pa_nil)) pa_nil)) (pg_name (i := 2) sc__law_same.nd rfl (by first | exact Or.inl rfl | exact Or.inr rfl))
        (pss_one (ps_if (pt_not (pt_val (pe_callS ih hr rfl T.g__law_same T.k__law_same T.b__law_same (fun σ => passAt tk σ) (pa_cons (pe_ix ix_seq (pv 0) (pv 2) (fun _ _ => rfl)) (pa_cons (pe_ix ix_seq (pv 1) (pv 2) (fun _ _ => rfl)) pa_nil)))))
        (pss_one (ps_ret pe_bl))
        pss_nil)))
      (pss_one (ps_ret pe_bl)))))))))),
      (ds_seq (ds_if (dt_B (de_op o_isN (de_var 1) de_non)) (ds_ret (de_op o_isN (de_var 0) de_non)) ds_nil)
      (ds_seq (ds_if (dt_B (de_cb o_isi (da_cons (de_var 1) (da_cons de_ty da_nil)))) (ds_ret (de_and (de_cb o_isi (da_cons (de_var 0) (da_cons de_ty da_nil))) (de_op o_eqD (de_var 0) (de_var 1)))) ds_nil)
      (ds_seq (ds_if (dt_B (de_cb o_isi (da_cons (de_var 1) (da_cons de_ty da_nil)))) (ds_ret (de_and (de_cb o_isi (da_cons (de_var 0) (da_cons de_ty da_nil))) (de_and (de_not (de_cb o_isi (da_cons (de_var 0) (da_cons de_ty da_nil)))) (de_op o_eqD (de_var 0) (de_var 1))))) ds_nil)
      (ds_seq (ds_if (dt_B (de_cb o_isi (da_cons (de_var 1) (da_cons de_ty da_nil)))) (ds_ret (de_and (de_cb o_isi (da_cons (de_var 0) (da_cons de_ty da_nil))) (de_op o_eqD (de_var 0) (de_var 1)))) ds_nil)
      (ds_seq (ds_if (dt_and (dt_B (de_cb o_isi (da_cons (de_var 1) (da_cons de_ty da_nil)))) (dt_not (dt_B (de_cb o_isi (da_cons (de_var 0) (da_cons de_ty da_nil)))))) (ds_ret de_bl) ds_nil)
      (ds_seq (ds_if (dt_and (dt_B (de_cb o_isi (da_cons (de_var 1) (da_cons de_ty da_nil)))) (dt_not (dt_B (de_cb o_isi (da_cons (de_var 0) (da_cons de_ty da_nil)))))) (ds_ret de_bl) ds_nil)
      (ds_seq (ds_if (dt_B (de_op o_ne (de_cb o_len (da_cons (de_var 0) da_nil)) (de_cb o_len (da_cons (de_var 1) da_nil)))) (ds_ret de_bl) ds_nil)
      (ds_seq (ds_for (wI := (wRng1 (wCons (wCB gLen (wCons (wVar 1) wNil)) wNil))) (wg := (wName 2)) (wb := (wIfS (wNot (wB (wCall 2 (fs__law_same K n) (wcCons (wOp gIx (wVar 0) (wVar 2)) (wcCons (wOp gIx (wVar 1) (wVar 2)) wcNil))))) (wRet (wC (.bl false))) wNext)) (di_rng1 (da_cons (de_cb o_len (da_cons (de_var 1) da_nil)) da_nil)) (dg_name 2) (ds_if (dt_not (dt_B (de_call (n := 2) (fs := fs__law_same K n) (dac_cons (de_op o_ix (de_var 0) (de_var 2)) (dac_cons (de_op o_ix (de_var 1) (de_var 2)) dac_nil))))) (ds_ret de_bl) ds_nil))
      (ds_ret de_bl)))))))))⟩
abbrev s__law_integer : Stmt := topS 46
theorem sc__law_integer : FnScope ["thing"] ["thing"] (defScope s__law_integer) := ⟨rfl, rfl, rfl, by decide +kernel, rfl, by decide +kernel, by decide +kernel⟩
def w__law_integer (K : PySem.W.Frag) : SW := (wRet (wAndV (wCB (gIsi K) (wCons (wVar 0) (wCons (wC (.ty "int")) wNil))) (wNotV (wCB (gIsi K) (wCons (wVar 0) (wCons (wC (.ty "bool")) wNil))))))
def fs__law_integer (K : PySem.W.Frag) : FS := fun cs q _ => ∃ d, cs = [.dat d] ∧ OkD K d ∧ q (.bl (isIntD d)) [.dat d]
theorem pure__law_integer : PureD 1 0 (fs__law_integer K) (w__law_integer K) := by
  rintro cs q e - ⟨d, rfl, hd, hq⟩
  simp only [w__law_integer, gIsi_iff hd (show "int" ∈ kinds by simp), gIsi_iff hd (show "bool" ∈ kinds by simp), wAsg2, wTold2, wEnumB, wListOfOwn, wRetOwnG, dcOf, wIsiT, offE, D.adr.injEq, Cont.pool.injEq, ixN31, ne_eq, List.map_cons, List.map_nil, wRaise0, wRaise1, wFrz, wEnumT, wDict0, wDict1, numD3, Nat.reduceAdd, atI0, atI1, atI2, atI3, atI4, ixN51, ixN52, ixN53, List.length_map, scal, V.int.injEq, V.str.injEq, V.bl.injEq, wSq, wNext, wBreak, wDrop, wRet, wIfS, wAsg, wPar, wLstOwn, wAppend, wSetOwn, wIxOwn, wPeek, wRetFr, wFor, wB, wNot, wAnd, wOr, wAndV, wOrV, wNotV, wChain, wNil, wCons, wCB, wTup, wLst, wNoPart, wPart, wSlT, wSeq, wRng1, wRng2, wZip, wName, wNilT, wConsT, wTupT, wYes, wNeg, wVar, wC, wOp, wcNil, wcCons, wcOwn, wCall, wCallOwn, slots, cellsOf, OwnArgs, putBack, g2I, g2IC, gLen, gAbs, gGcd, gInt1, gTupleOf, gListOf, gIx, gCatT, gCat, gEq, gNe, gIsN, gNotN, scD, seqD_t, seqD_l, seqD_f, isNonD, List.nodup_cons, List.mem_cons, List.not_mem_nil, or_false, not_false_eq_true, Nat.reduceEqDiff, L3.Keeps, ends, wipeD, List.replicate, List.cons_append, List.nil_append, List.append_nil, List.getElem?_cons_zero, List.getElem?_cons_succ, List.set_cons_zero, List.set_cons_succ, List.getD_cons_zero, List.getD_cons_succ, List.length_cons, List.length_nil, List.nodup_nil, Option.some.injEq, Cell.dat.injEq, Cell.own.injEq, Cont.lst.injEq, D.bl.injEq, D.int.injEq, D.str.injEq, D.tup.injEq, D.lst.injEq, Arg.d.injEq, List.cons.injEq, exists_and_left, exists_and_right, exists_eq_left', exists_eq_left, exists_eq_right, exists_eq_right', exists_eq, exists_eq', and_true, true_and, and_assoc, and_self, exists_const, reduceCtorEq, web_wE, web_pE, webD_inj]
  cases d <;> simp_all [isiD, isIntD]
theorem ok__law_integer (T : Txt K mg) : FnOk P w K mg base (L2.CX P w) 1 T.f__law_integer T.fd__law_integer ["thing"] (spOf K 1 (fs__law_integer K)) := by
  refine def_ok T.F__law_integer sc__law_integer (wb := w__law_integer K) pure__law_integer ?_
  intro cdv A outer s H E hr tk
  exact ⟨_, (pss_one (ps_ret (pe_and (pe_callB call_isi (by rfl) T.z_isinstance (by decide +kernel) (pa_cons (pv 0) (pa_cons (pe_bltn (v := .ty "int") (by rfl) T.z_int (by decide +kernel) rfl) pa_nil))) (pe_one (pe_not (pe_callB call_isi (by rfl) T.z_isinstance (by decide +kernel) (pa_cons (pv 0) (pa_cons (pe_bltn (v := .ty "bool") (by rfl) T.z_bool (by decide +kernel) rfl) pa_nil)))))))),
    (ds_ret (de_and (de_cb o_isi (da_cons (de_var 0) (da_cons de_ty da_nil))) (de_not (de_cb o_isi (da_cons (de_var 0) (da_cons de_ty da_nil))))))⟩
abbrev s__law_deep : Stmt := topS 47
theorem sc__law_deep : FnScope ["many", "thing", "turn"] ["many"] (defScope s__law_deep) := ⟨rfl, rfl, rfl, by decide +kernel, rfl, by decide +kernel, by decide +kernel⟩
def l1__law_deep (K : PySem.W.Frag) : SW := wFor (wRng1 (wCons (wVar 0) wNil)) (wName 2) (wAsg (wTup (wCons (wVar 1) wNil)) (wName 1))
def w__law_deep (K : PySem.W.Frag) : SW := (wSq (wAsg (wTup wNil) (wName 1))
  (wSq (l1__law_deep K)
  (wRet (wVar 1))))
def deepD : Nat → D | 0 => .tup [] | n + 1 => .tup [deepD n]
def fs__law_deep (K : PySem.W.Frag) : FS := fun cs q _ => ∃ n : Nat, cs = [.dat (.int n)] ∧ n ≤ 100 ∧ q (deepD n) cs
def InvDeep (n : Nat) (i : Nat) (τ : List Cell) : Prop := ∃ c, τ = [.dat (.int n), .dat (deepD i), c]
theorem l1__law_deep_ok {n : Nat} {c : Cell} {E : EndsD} (hl : n ≤ 100) (hn : ∀ c, E.nx [.dat (.int n), .dat (deepD n), c]) : l1__law_deep K E [.dat (.int n), .dat (.tup []), c] := by
  unfold l1__law_deep wFor
  refine ⟨_, rfl, n, rfl, by omega, by omega, InvDeep n, ⟨c, rfl⟩, ?_, ?_⟩
  · rintro i d τ2 hi ⟨c, rfl⟩
    simp only [wAsg2, wTold2, wEnumB, wListOfOwn, wRetOwnG, dcOf, wIsiT, offE, D.adr.injEq, Cont.pool.injEq, ixN31, ne_eq, List.map_cons, List.map_nil, wRaise0, wRaise1, wFrz, wEnumT, wDict0, wDict1, numD3, Nat.reduceAdd, atI0, atI1, atI2, atI3, atI4, ixN51, ixN52, ixN53, List.length_map, scal, V.int.injEq, V.str.injEq, V.bl.injEq, wSq, wNext, wBreak, wDrop, wRet, wIfS, wAsg, wPar, wLstOwn, wAppend, wSetOwn, wIxOwn, wPeek, wRetFr, wFor, wB, wNot, wAnd, wOr, wAndV, wOrV, wNotV, wChain, wNil, wCons, wCB, wTup, wLst, wNoPart, wPart, wSlT, wSeq, wRng1, wRng2, wZip, wName, wNilT, wConsT, wTupT, wYes, wNeg, wVar, wC, wOp, wcNil, wcCons, wcOwn, wCall, wCallOwn, slots, cellsOf, OwnArgs, putBack, g2I, g2IC, gLen, gAbs, gGcd, gInt1, gTupleOf, gListOf, gIx, gCatT, gCat, gEq, gNe, gIsN, gNotN, scD, seqD_t, seqD_l, seqD_f, isNonD, List.nodup_cons, List.mem_cons, List.not_mem_nil, or_false, not_false_eq_true, Nat.reduceEqDiff, L3.Keeps, ends, wipeD, List.replicate, List.cons_append, List.nil_append, List.append_nil, List.getElem?_cons_zero, List.getElem?_cons_succ, List.set_cons_zero, List.set_cons_succ, List.getD_cons_zero, List.getD_cons_succ, List.length_cons, List.length_nil, List.nodup_nil, Option.some.injEq, Cell.dat.injEq, Cell.own.injEq, Cont.lst.injEq, D.bl.injEq, D.int.injEq, D.str.injEq, D.tup.injEq, D.lst.injEq, Arg.d.injEq, List.cons.injEq, exists_and_left, exists_and_right, exists_eq_left', exists_eq_left, exists_eq_right, exists_eq_right', exists_eq, exists_eq', and_true, true_and, and_assoc, and_self, exists_const, reduceCtorEq, web_wE, web_pE, webD_inj]
    exact ⟨by decide, Cell.dat d, rfl⟩
  · rintro τ2 ⟨c, rfl⟩
    rw [rangeD_length]
    exact hn c
theorem pure__law_deep : PureD 1 2 (fs__law_deep K) (w__law_deep K) := by
  rintro cs q e - ⟨n, rfl, hn, hq⟩
  simp only [w__law_deep, wAsg2, wTold2, wEnumB, wListOfOwn, wRetOwnG, dcOf, wIsiT, offE, D.adr.injEq, Cont.pool.injEq, ixN31, ne_eq, List.map_cons, List.map_nil, wRaise0, wRaise1, wFrz, wEnumT, wDict0, wDict1, numD3, Nat.reduceAdd, atI0, atI1, atI2, atI3, atI4, ixN51, ixN52, ixN53, List.length_map, scal, V.int.injEq, V.str.injEq, V.bl.injEq, wSq, wNext, wBreak, wDrop, wRet, wIfS, wAsg, wPar, wLstOwn, wAppend, wSetOwn, wIxOwn, wPeek, wRetFr, wFor, wB, wNot, wAnd, wOr, wAndV, wOrV, wNotV, wChain, wNil, wCons, wCB, wTup, wLst, wNoPart, wPart, wSlT, wSeq, wRng1, wRng2, wZip, wName, wNilT, wConsT, wTupT, wYes, wNeg, wVar, wC, wOp, wcNil, wcCons, wcOwn, wCall, wCallOwn, slots, cellsOf, OwnArgs, putBack, g2I, g2IC, gLen, gAbs, gGcd, gInt1, gTupleOf, gListOf, gIx, gCatT, gCat, gEq, gNe, gIsN, gNotN, scD, seqD_t, seqD_l, seqD_f, isNonD, List.nodup_cons, List.mem_cons, List.not_mem_nil, or_false, not_false_eq_true, Nat.reduceEqDiff, L3.Keeps, ends, wipeD, List.replicate, List.cons_append, List.nil_append, List.append_nil, List.getElem?_cons_zero, List.getElem?_cons_succ, List.set_cons_zero, List.set_cons_succ, List.getD_cons_zero, List.getD_cons_succ, List.length_cons, List.length_nil, List.nodup_nil, Option.some.injEq, Cell.dat.injEq, Cell.own.injEq, Cont.lst.injEq, D.bl.injEq, D.int.injEq, D.str.injEq, D.tup.injEq, D.lst.injEq, Arg.d.injEq, List.cons.injEq, exists_and_left, exists_and_right, exists_eq_left', exists_eq_left, exists_eq_right, exists_eq_right', exists_eq, exists_eq', and_true, true_and, and_assoc, and_self, exists_const, reduceCtorEq, web_wE, web_pE, webD_inj]
  refine ⟨by decide, l1__law_deep_ok hn fun c => ?_⟩
  simp only [wAsg2, wTold2, wEnumB, wListOfOwn, wRetOwnG, dcOf, wIsiT, offE, D.adr.injEq, Cont.pool.injEq, ixN31, ne_eq, List.map_cons, List.map_nil, wRaise0, wRaise1, wFrz, wEnumT, wDict0, wDict1, numD3, Nat.reduceAdd, atI0, atI1, atI2, atI3, atI4, ixN51, ixN52, ixN53, List.length_map, scal, V.int.injEq, V.str.injEq, V.bl.injEq, wSq, wNext, wBreak, wDrop, wRet, wIfS, wAsg, wPar, wLstOwn, wAppend, wSetOwn, wIxOwn, wPeek, wRetFr, wFor, wB, wNot, wAnd, wOr, wAndV, wOrV, wNotV, wChain, wNil, wCons, wCB, wTup, wLst, wNoPart, wPart, wSlT, wSeq, wRng1, wRng2, wZip, wName, wNilT, wConsT, wTupT, wYes, wNeg, wVar, wC, wOp, wcNil, wcCons, wcOwn, wCall, wCallOwn, slots, cellsOf, OwnArgs, putBack, g2I, g2IC, gLen, gAbs, gGcd, gInt1, gTupleOf, gListOf, gIx, gCatT, gCat, gEq, gNe, gIsN, gNotN, scD, seqD_t, seqD_l, seqD_f, isNonD, List.nodup_cons, List.mem_cons, List.not_mem_nil, or_false, not_false_eq_true, Nat.reduceEqDiff, L3.Keeps, ends, wipeD, List.replicate, List.cons_append, List.nil_append, List.append_nil, List.getElem?_cons_zero, List.getElem?_cons_succ, List.set_cons_zero, List.set_cons_succ, List.getD_cons_zero, List.getD_cons_succ, List.length_cons, List.length_nil, List.nodup_nil, Option.some.injEq, Cell.dat.injEq, Cell.own.injEq, Cont.lst.injEq, D.bl.injEq, D.int.injEq, D.str.injEq, D.tup.injEq, D.lst.injEq, Arg.d.injEq, List.cons.injEq, exists_and_left, exists_and_right, exists_eq_left', exists_eq_left, exists_eq_right, exists_eq_right', exists_eq, exists_eq', and_true, true_and, and_assoc, and_self, exists_const, reduceCtorEq, web_wE, web_pE, webD_inj]
  exact hq
theorem deep_ok : ∀ n, OkD K (deepD n)
  | 0 => by unfold deepD OkD OkDs; trivial
  | n + 1 => by unfold deepD OkD OkDs; exact ⟨deep_ok n, by unfold OkDs; trivial⟩
theorem ok__law_deep (T : Txt K mg) : FnOk P w K mg base (L2.CX P w) 1 T.f__law_deep T.fd__law_deep ["many"] (spOf K 1 (fs__law_deep K)) := by
  refine def_ok T.F__law_deep sc__law_deep (wb := w__law_deep K) pure__law_deep ?_
  intro cdv A outer s H E hr tk
  exact ⟨_, (pss_cons (ps_set (i := 1) sc__law_deep.nd rfl (by first | exact Or.inl rfl | exact Or.inr rfl) (pe_tup pa_nil))
      (pss_cons (ps_for (passes_of rfl) rfl (pi_range1 (by rfl) T.z_range (pa_cons (pv 0) pa_nil)) (pg_name (i := 2) sc__law_deep.nd rfl (by first | exact Or.inl rfl | exact Or.inr rfl))
        (pss_one (ps_set (i := 1) sc__law_deep.nd rfl (by first | exact Or.inl rfl | exact Or.inr rfl) (pe_tup (pa_cons (pv 1) pa_nil)))))
      (pss_one (ps_ret (pv 1))))),
    (ds_seq (ds_asg (de_tup da_nil) (dg_name 1))
      (ds_seq (ds_for (wI := (wRng1 (wCons (wVar 0) wNil))) (wg := (wName 2)) (wb := (wAsg (wTup (wCons (wVar 1) wNil)) (wName 1))) (di_rng1 (da_cons (de_var 0) da_nil)) (dg_name 2) (ds_asg (de_tup (da_cons (de_var 1) da_nil)) (dg_name 1)))
      (ds_ret (de_var 1))))⟩
abbrev s__law_strange : Stmt := topS 48
theorem sc__law_strange : FnScope ["source", "things"] ["source"] (defScope s__law_strange) := ⟨rfl, rfl, rfl, by decide +kernel, rfl, by decide +kernel, by decide +kernel⟩
def w__law_strange (K : PySem.W.Frag) (Z : CT) : SW := (wSq (wAsg (wLst (wCons (wC .non) (wCons (wC (.bl true)) (wCons (wC (.bl false)) (wCons (wC (.str "")) (wCons (wC (.str "1")) (wCons (wC (.str "a/2")) (wCons (wLst wNil) (wCons (wLst (wCons (wC (.int 1)) wNil)) (wCons (wLst (wCons (wTup (wCons (wC (.int 1)) (wCons (wC (.int 1)) wNil))) wNil)) (wCons (wTup wNil) (wCons (wTup (wCons (wC (.int 1)) wNil)) (wCons (wTup (wCons (wC (.int 1)) (wCons (wC (.int 1)) (wCons (wC (.int 1)) wNil)))) (wCons (wTup (wCons (wC (.int 2)) (wCons (wC (.int 4)) wNil))) (wCons (wTup (wCons (wC (.int 1)) (wCons (wC (.int 0)) wNil))) (wCons (wTup (wCons (wC (.int 1)) (wCons (wNeg (wC (.int 1))) wNil))) (wCons (wTup (wCons (wC (.int 0)) (wCons (wC (.int 1)) wNil))) (wCons (wTup (wCons (wNeg (wC (.int 1))) (wCons (wC (.int 2)) wNil))) wNil)))))))))))))))))) (wName 1))
  (wSq (wAsg (wOp gCat (wVar 1) (wLst (wCons (wTup (wCons (wC (.bl true)) (wCons (wC (.int 1)) wNil))) (wCons (wTup (wCons (wC (.int 1)) (wCons (wC (.bl true)) wNil))) (wCons (wTup (wCons (wC (.str "1")) (wCons (wC (.int 1)) wNil))) (wCons (wTup (wCons (wC .non) (wCons (wC (.int 1)) wNil))) (wCons (wTup (wCons (wTup (wCons (wC (.int 1)) (wCons (wC (.int 1)) wNil))) (wCons (wC (.int 1)) wNil))) (wCons wDict0 (wCons (wDict1 (wC (.str "a")) (wC (.int 1))) (wCons (wDict1 (wC (.int 1)) (wTup (wCons (wC (.int 2)) (wCons (wC (.int 3)) wNil)))) (wCons (wNeg (wC (.int 1))) (wCons (wC (.int 0)) (wCons (wC (.int 1)) (wCons (wC (.int 2)) (wCons (wC (.int 7)) (wCons (wC (.int 12)) (wCons (wC (.int 13)) wNil))))))))))))))))) (wName 1))
  (wSq (wAsg (wOp gCat (wVar 1) (wLst (wCons (wC (.int 37)) (wCons (wOp gPowI (wC (.int 10)) (wC (.int 39))) (wCons (wNeg (wOp gPowI (wC (.int 10)) (wC (.int 39)))) (wCons (wTup (wCons (wOp gPowI (wC (.int 10)) (wC (.int 39))) (wCons (wC (.int 1)) wNil))) (wCons (wTup (wCons (wC (.int 1)) (wCons (wOp gPowI (wC (.int 10)) (wC (.int 39))) wNil))) (wCons (wTup (wCons (wOp gAddI (wOp gPowI (wC (.int 10)) (wC (.int 6))) (wC (.int 1))) (wCons (wC (.int 1)) wNil))) (wCons (wTup (wCons (wC (.int 1)) (wCons (wC (.int 145)) wNil))) (wCons (wCall 1 (fs__law_deep K) (wcCons (wC (.int 32)) wcNil)) (wCons (wMkO Z.C_Web 2 (fs_Web__init__ K Z) (wCons (wTup (wCons (wC (.int 1)) wNil)) (wCons (wTup wNil) wNil))) wNil))))))))))) (wName 1))
  (wRet (wCall 2 (fs__law_pick K) (wcOwn 0 (wcCons (wVar 1) wcNil)))))))
def fs__law_strange (K : PySem.W.Frag) (Z : CT) : FS := fun cs q _ => ∃ (p : Addr) (c : Cont), cs = [.own p c] ∧ SrcC c ∧ OkD K (.oth (.ref Z.C_Web)) ∧ ∀ (c' : Cont) (x : D), SrcC c' → OkD K x → q x [.own p c']
theorem pow39 : (10 : Int) ^ Int.toNat 39 = 1000000000000000000000000000000000000000 := by decide +kernel
theorem kit_dict : ∀ n ∈ kinds, kitB "dict" n = some false := by decide +kernel
theorem ok_dict : OkD K (.oth (.type "dict")) := by
  unfold OkD
  exact fun n hn => kit_ty (kit_dict n hn)
theorem bw1 : badWeb (.tup [.int 1]) (.tup []) = none := rfl
theorem pure__law_strange {Z : CT} : PureD 1 1 (fs__law_strange K Z) (w__law_strange K Z) := by
  rintro cs q e - ⟨p, c, rfl, hc, hw, hq⟩
  have cp : ∀ n : Int, 0 ≤ n → n ≤ 100 → CPow 10 n := fun n a b => ⟨a, by omega, by decide⟩
  have c39 := cp 39 (by decide) (by decide)
  have c6 := cp 6 (by decide) (by decide)
  simp only [w__law_strange, fs__law_pick, fs__law_deep, fs_Web__init__, bw1, wMkO, wDict1, keyD, seqD_l, pow6, pow39, c39, c6, hc, List.map_cons, List.map_nil, Nat.reduceLeDiff, Nat.reduceLT, Nat.lt_irrefl, Option.isSome_some, Nat.zero_le, wAsg2, wTold2, wEnumB, wListOfOwn, wRetOwnG, dcOf, wIsiT, offE, D.adr.injEq, Cont.pool.injEq, ixN31, ne_eq, List.map_cons, List.map_nil, wRaise0, wRaise1, wFrz, wEnumT, wDict0, wDict1, numD3, Nat.reduceAdd, atI0, atI1, atI2, atI3, atI4, ixN51, ixN52, ixN53, List.length_map, scal, V.int.injEq, V.str.injEq, V.bl.injEq, wSq, wNext, wBreak, wDrop, wRet, wIfS, wAsg, wPar, wLstOwn, wAppend, wSetOwn, wIxOwn, wPeek, wRetFr, wFor, wB, wNot, wAnd, wOr, wAndV, wOrV, wNotV, wChain, wNil, wCons, wCB, wTup, wLst, wNoPart, wPart, wSlT, wSeq, wRng1, wRng2, wZip, wName, wNilT, wConsT, wTupT, wYes, wNeg, wVar, wC, wOp, wcNil, wcCons, wcOwn, wCall, wCallOwn, slots, cellsOf, OwnArgs, putBack, g2I, g2IC, gLen, gAbs, gGcd, gInt1, gTupleOf, gListOf, gIx, gCatT, gCat, gEq, gNe, gIsN, gNotN, scD, seqD_t, seqD_l, seqD_f, isNonD, List.nodup_cons, List.mem_cons, List.not_mem_nil, or_false, not_false_eq_true, Nat.reduceEqDiff, L3.Keeps, ends, wipeD, List.replicate, List.cons_append, List.nil_append, List.append_nil, List.getElem?_cons_zero, List.getElem?_cons_succ, List.set_cons_zero, List.set_cons_succ, List.getD_cons_zero, List.getD_cons_succ, List.length_cons, List.length_nil, List.nodup_nil, Option.some.injEq, Cell.dat.injEq, Cell.own.injEq, Cont.lst.injEq, D.bl.injEq, D.int.injEq, D.str.injEq, D.tup.injEq, D.lst.injEq, Arg.d.injEq, List.cons.injEq, exists_and_left, exists_and_right, exists_eq_left', exists_eq_left, exists_eq_right, exists_eq_right', exists_eq, exists_eq', and_true, true_and, and_assoc, and_self, exists_const, reduceCtorEq, web_wE, web_pE, webD_inj]
  refine ⟨32, rfl, by decide, fun x dx => ⟨dx, rfl, by simp [OkD, OkDs], by simp [OkD, OkDs], fun _ z => z.elim, fun _ => ⟨⟨_, rfl⟩, fun c' y hc' hy => hq c' y hc' ?_⟩⟩⟩
  rcases hy with rfl | rfl | rfl | rfl | rfl | rfl | rfl | rfl | rfl | rfl | rfl | rfl | rfl | rfl | rfl | rfl | rfl | rfl | rfl | rfl | rfl | rfl | rfl | rfl | rfl | rfl | rfl | rfl | rfl | rfl | rfl | rfl | rfl | rfl | rfl | rfl | rfl | rfl | rfl | rfl | rfl
  all_goals first
    | exact ok_dict
    | exact hw
    | exact deep_ok 32
    | simp [OkD, OkDs]
theorem ok__law_strange (T : Txt K mg) : FnOk P w K mg base (L2.CX P w) 8 T.f__law_strange T.fd__law_strange ["source"] (spOf K 1 (fs__law_strange K T.Z)) := by
  refine def_ok T.F__law_strange sc__law_strange (wb := w__law_strange K T.Z) pure__law_strange ?_
  intro cdv A outer s H E hr tk
  exact ⟨_, (pss_cons (ps_set (i := 1) sc__law_strange.nd rfl (by first | exact Or.inl rfl | exact Or.inr rfl) (pe_lst (pa_cons pe_non (pa_cons pe_bl (pa_cons pe_bl (pa_cons pe_str (pa_cons pe_str (pa_cons pe_str (pa_cons (pe_lst pa_nil) (pa_cons (pe_lst (pa_cons pe_int pa_nil)) (pa_cons (pe_lst (pa_cons (pe_tup (pa_cons pe_int (pa_cons pe_int pa_nil))) pa_nil)) (pa_cons (pe_tup pa_nil) (pa_cons (pe_tup (pa_cons pe_int pa_nil)) (pa_cons (pe_tup (pa_cons pe_int (pa_cons pe_int (pa_cons pe_int pa_nil)))) (pa_cons (pe_tup (pa_cons pe_int (pa_cons pe_int pa_nil))) (pa_cons (pe_tup (pa_cons pe_int (pa_cons pe_int pa_nil))) (pa_cons (pe_tup (pa_cons pe_int (pa_cons (pe_un un_neg pe_int) pa_nil))) (pa_cons (pe_tup (pa_cons pe_int (pa_cons pe_int pa_nil))) (pa_cons (pe_tup (pa_cons (pe_un un_neg pe_int) (pa_cons pe_int pa_nil))) pa_nil)))))))))))))))))))
      (pss_cons (ps_set (i := 1) sc__law_strange.nd rfl (by first | exact Or.inl rfl | exact Or.inr rfl) (pe_op op_cat (pv 1) (pe_lst (pa_cons (pe_tup (pa_cons pe_bl (pa_cons pe_int pa_nil))) (pa_cons (pe_tup (pa_cons pe_int (pa_cons pe_bl pa_nil))) (pa_cons (pe_tup (pa_cons pe_str (pa_cons pe_int pa_nil))) (pa_cons (pe_tup (pa_cons pe_non (pa_cons pe_int pa_nil))) (pa_cons (pe_tup (pa_cons (pe_tup (pa_cons pe_int (pa_cons pe_int pa_nil))) (pa_cons pe_int pa_nil))) (pa_cons pe_dnewK (pa_cons (pe_disp (pps_cons pe_str pe_int pps_nil) (by rfl) (by rfl) (fun z => by cases z) (by decide)) (pa_cons (pe_disp (pps_cons pe_int (pe_tup (pa_cons pe_int (pa_cons pe_int pa_nil))) pps_nil) (by rfl) (by rfl) (fun z => by cases z) (by decide)) (pa_cons (pe_un un_neg pe_int) (pa_cons pe_int (pa_cons pe_int (pa_cons pe_int (pa_cons pe_int (pa_cons pe_int (pa_cons pe_int pa_nil))))))))))))))))))
      (pss_cons (ps_set (i := 1) sc__law_strange.nd rfl (by first | exact Or.inl rfl | exact Or.inr rfl) (pe_op op_cat (pv 1) (pe_lst (pa_cons pe_int (pa_cons (pe_op op_pow pe_int pe_int) (pa_cons (pe_un un_neg (pe_op op_pow pe_int pe_int)) (pa_cons (pe_tup (pa_cons (pe_op op_pow pe_int pe_int) (pa_cons pe_int pa_nil))) (pa_cons (pe_tup (pa_cons pe_int (pa_cons (pe_op op_pow pe_int pe_int) pa_nil))) (pa_cons (pe_tup (pa_cons (pe_op op_add (pe_op op_pow pe_int pe_int) pe_int) (pa_cons pe_int pa_nil))) (pa_cons (pe_tup (pa_cons pe_int (pa_cons pe_int pa_nil))) (pa_cons (pe_callS (ok__law_deep T) (hr.mono (by decide)) rfl T.g__law_deep T.k__law_deep T.b__law_deep (fun σ => passAt tk σ) (pa_cons pe_int pa_nil)) (pa_cons (pe_make T.cm_Web (ok_Web__init__ T) (hr.mono (by decide)) rfl T.gc_Web T.b_Web__init__ .nil passL (pa_cons (pe_tup (pa_cons pe_int pa_nil)) (pa_cons (pe_tup pa_nil) pa_nil))) pa_nil))))))))))))
      (pss_one (ps_ret (pe_callS (ok__law_pick T) (hr.mono (by decide)) rfl T.g__law_pick T.k__law_pick T.b__law_pick (fun σ => passAt tk σ) (pa_cons (pv 0) (pa_cons (pv 1) pa_nil)))))))),
    (ds_seq (ds_asg (de_lst (da_cons de_non (da_cons de_bl (da_cons de_bl (da_cons de_str (da_cons de_str (da_cons de_str (da_cons (de_lst da_nil) (da_cons (de_lst (da_cons de_int da_nil)) (da_cons (de_lst (da_cons (de_tup (da_cons de_int (da_cons de_int da_nil))) da_nil)) (da_cons (de_tup da_nil) (da_cons (de_tup (da_cons de_int da_nil)) (da_cons (de_tup (da_cons de_int (da_cons de_int (da_cons de_int da_nil)))) (da_cons (de_tup (da_cons de_int (da_cons de_int da_nil))) (da_cons (de_tup (da_cons de_int (da_cons de_int da_nil))) (da_cons (de_tup (da_cons de_int (da_cons (de_neg de_int) da_nil))) (da_cons (de_tup (da_cons de_int (da_cons de_int da_nil))) (da_cons (de_tup (da_cons (de_neg de_int) (da_cons de_int da_nil))) da_nil)))))))))))))))))) (dg_name 1))
      (ds_seq (ds_asg (de_op o_cat (de_var 1) (de_lst (da_cons (de_tup (da_cons de_bl (da_cons de_int da_nil))) (da_cons (de_tup (da_cons de_int (da_cons de_bl da_nil))) (da_cons (de_tup (da_cons de_str (da_cons de_int da_nil))) (da_cons (de_tup (da_cons de_non (da_cons de_int da_nil))) (da_cons (de_tup (da_cons (de_tup (da_cons de_int (da_cons de_int da_nil))) (da_cons de_int da_nil))) (da_cons de_dict0 (da_cons (de_dict1 de_str de_int) (da_cons (de_dict1 de_int (de_tup (da_cons de_int (da_cons de_int da_nil)))) (da_cons (de_neg de_int) (da_cons de_int (da_cons de_int (da_cons de_int (da_cons de_int (da_cons de_int (da_cons de_int da_nil))))))))))))))))) (dg_name 1))
      (ds_seq (ds_asg (de_op o_cat (de_var 1) (de_lst (da_cons de_int (da_cons (de_op o_pow de_int de_int) (da_cons (de_neg (de_op o_pow de_int de_int)) (da_cons (de_tup (da_cons (de_op o_pow de_int de_int) (da_cons de_int da_nil))) (da_cons (de_tup (da_cons de_int (da_cons (de_op o_pow de_int de_int) da_nil))) (da_cons (de_tup (da_cons (de_op o_add (de_op o_pow de_int de_int) de_int) (da_cons de_int da_nil))) (da_cons (de_tup (da_cons de_int (da_cons de_int da_nil))) (da_cons (de_call (n := 1) (fs := fs__law_deep K) (dac_cons de_int dac_nil)) (da_cons (de_makeO (n := 2) (fs := fs_Web__init__ K T.Z) T.it_Web (da_cons (de_tup (da_cons de_int da_nil)) (da_cons (de_tup da_nil) da_nil))) da_nil))))))))))) (dg_name 1))
      (ds_ret (de_call (n := 2) (fs := fs__law_pick K) (dac_own (j := 0) (dac_cons (de_var 1) dac_nil)))))))⟩
abbrev s__law_in_order : Stmt := topS 49
theorem sc__law_in_order : FnScope ["steps", "pairs", "one", "pair"] ["steps"] (defScope s__law_in_order) := ⟨rfl, rfl, rfl, by decide +kernel, rfl, by decide +kernel, by decide +kernel⟩
def c1__law_in_order (K : PySem.W.Frag) : EW := wLc (wSeq (wVar 0)) (wName 2) wYes (wTup (wCons (wOp gDivW (wOp gMulA (wOp gIx (wVar 2) (wC (.int 0))) (wOp gPowI (wC (.int 10)) (wC (.int 6)))) (wOp gIx (wVar 2) (wC (.int 1)))) (wCons (wVar 2) wNil))) [2]
def c2__law_in_order (K : PySem.W.Frag) : EW := wLc (wSeq (wVar 1)) (wName 3) wYes (wOp gIx (wVar 3) (wC (.int 1))) [3]
def w__law_in_order (K : PySem.W.Frag) : SW := (wSq (wAsg (wCB gSort (wCons (c1__law_in_order K) wNil)) (wName 1))
  (wRet (wCB gTupleOf (wCons (c2__law_in_order K) wNil))))
def keyP : D → D | .tup [.int t, .int b] => .tup [.int (t * 1000000 / b), .tup [.int t, .int b]] | _ => .non
def sndP : D → D | .tup [_, y] => y | d => d
def fs__law_in_order (K : PySem.W.Frag) : FS := fun cs q _ => ∃ (es : List D), cs = [.dat (.lst es)] ∧ es.length ≤ 100 ∧ (∀ d ∈ es, isTh d = true) ∧ ∀ gs, gs.length = es.length → (∀ d ∈ gs, d ∈ es) → ascP gs = true → q (.tup gs) cs
theorem c1__law_in_order_ok {es : List D} {c2 c3 c4 : Cell} {q : D → List Cell → Prop} {e : Xn → List Cell → Prop} (hn : es.length ≤ 100) (hs : ∀ d ∈ es, isTh d = true)
    (hq : ∀ c2, q (.lst (es.map keyP)) [.dat (.lst es), c2, .any, c4]) : c1__law_in_order K [.dat (.lst es), c2, c3, c4] q e := by
  unfold c1__law_in_order wLc
  refine ⟨_, rfl, es, rfl, lc_fm keyP (fun _ => true) (by omega) (fun d hm k1 k2 h1 _ => ?_) (by rw [filter_true]; exact hq _)⟩
  obtain ⟨t, b, rfl, h2, h3, h4, h5⟩ := th_shape (hs d hm)
  simp only [pow6, wAsg2, wTold2, wEnumB, wListOfOwn, wRetOwnG, dcOf, wIsiT, offE, D.adr.injEq, Cont.pool.injEq, ixN31, ne_eq, List.map_cons, List.map_nil, wRaise0, wRaise1, wFrz, wEnumT, wDict0, wDict1, numD3, Nat.reduceAdd, atI0, atI1, atI2, atI3, atI4, ixN51, ixN52, ixN53, List.length_map, scal, V.int.injEq, V.str.injEq, V.bl.injEq, wSq, wNext, wBreak, wDrop, wRet, wIfS, wAsg, wPar, wLstOwn, wAppend, wSetOwn, wIxOwn, wPeek, wRetFr, wFor, wB, wNot, wAnd, wOr, wAndV, wOrV, wNotV, wChain, wNil, wCons, wCB, wTup, wLst, wNoPart, wPart, wSlT, wSeq, wRng1, wRng2, wZip, wName, wNilT, wConsT, wTupT, wYes, wNeg, wVar, wC, wOp, wcNil, wcCons, wcOwn, wCall, wCallOwn, slots, cellsOf, OwnArgs, putBack, g2I, g2IC, gLen, gAbs, gGcd, gInt1, gTupleOf, gListOf, gIx, gCatT, gCat, gEq, gNe, gIsN, gNotN, scD, seqD_t, seqD_l, seqD_f, isNonD, List.nodup_cons, List.mem_cons, List.not_mem_nil, or_false, not_false_eq_true, Nat.reduceEqDiff, L3.Keeps, ends, wipeD, List.replicate, List.cons_append, List.nil_append, List.append_nil, List.getElem?_cons_zero, List.getElem?_cons_succ, List.set_cons_zero, List.set_cons_succ, List.getD_cons_zero, List.getD_cons_succ, List.length_cons, List.length_nil, List.nodup_nil, Option.some.injEq, Cell.dat.injEq, Cell.own.injEq, Cont.lst.injEq, D.bl.injEq, D.int.injEq, D.str.injEq, D.tup.injEq, D.lst.injEq, Arg.d.injEq, List.cons.injEq, exists_and_left, exists_and_right, exists_eq_left', exists_eq_left, exists_eq_right, exists_eq_right', exists_eq, exists_eq', and_true, true_and, and_assoc, and_self, exists_const, reduceCtorEq, web_wE, web_pE, webD_inj]
  simp only [true_implies]
  have cp : CPow 10 6 := ⟨by decide, by decide, by decide⟩
  refine ⟨⟨cp, cmul_r (by decide) (by decide), ?_, by decide, h1 rfl _ rfl⟩, fun z => z.elim⟩
  exact wide_div (by omega) (b := 40) (by omega) (by decide) (by decide)
theorem c2__law_in_order_ok {es : List D} {c1 c3 c4 : Cell} {q : D → List Cell → Prop} {e : Xn → List Cell → Prop} (hn : es.length ≤ 100) (hs : ∀ d ∈ es, ∃ x y, d = .tup [x, y])
    (hq : q (.lst (es.map sndP)) [c1, .dat (.lst es), c3, .any]) : c2__law_in_order K [c1, .dat (.lst es), c3, c4] q e := by
  unfold c2__law_in_order wLc
  refine ⟨_, rfl, es, rfl, lc_fm sndP (fun _ => true) (by omega) (fun d hm k1 k2 h1 _ => ?_) (by rw [filter_true]; exact hq)⟩
  obtain ⟨x, y, rfl⟩ := hs d hm
  simp only [wAsg2, wTold2, wEnumB, wListOfOwn, wRetOwnG, dcOf, wIsiT, offE, D.adr.injEq, Cont.pool.injEq, ixN31, ne_eq, List.map_cons, List.map_nil, wRaise0, wRaise1, wFrz, wEnumT, wDict0, wDict1, numD3, Nat.reduceAdd, atI0, atI1, atI2, atI3, atI4, ixN51, ixN52, ixN53, List.length_map, scal, V.int.injEq, V.str.injEq, V.bl.injEq, wSq, wNext, wBreak, wDrop, wRet, wIfS, wAsg, wPar, wLstOwn, wAppend, wSetOwn, wIxOwn, wPeek, wRetFr, wFor, wB, wNot, wAnd, wOr, wAndV, wOrV, wNotV, wChain, wNil, wCons, wCB, wTup, wLst, wNoPart, wPart, wSlT, wSeq, wRng1, wRng2, wZip, wName, wNilT, wConsT, wTupT, wYes, wNeg, wVar, wC, wOp, wcNil, wcCons, wcOwn, wCall, wCallOwn, slots, cellsOf, OwnArgs, putBack, g2I, g2IC, gLen, gAbs, gGcd, gInt1, gTupleOf, gListOf, gIx, gCatT, gCat, gEq, gNe, gIsN, gNotN, scD, seqD_t, seqD_l, seqD_f, isNonD, List.nodup_cons, List.mem_cons, List.not_mem_nil, or_false, not_false_eq_true, Nat.reduceEqDiff, L3.Keeps, ends, wipeD, List.replicate, List.cons_append, List.nil_append, List.append_nil, List.getElem?_cons_zero, List.getElem?_cons_succ, List.set_cons_zero, List.set_cons_succ, List.getD_cons_zero, List.getD_cons_succ, List.length_cons, List.length_nil, List.nodup_nil, Option.some.injEq, Cell.dat.injEq, Cell.own.injEq, Cont.lst.injEq, D.bl.injEq, D.int.injEq, D.str.injEq, D.tup.injEq, D.lst.injEq, Arg.d.injEq, List.cons.injEq, exists_and_left, exists_and_right, exists_eq_left', exists_eq_left, exists_eq_right, exists_eq_right', exists_eq, exists_eq', and_true, true_and, and_assoc, and_self, exists_const, reduceCtorEq, web_wE, web_pE, webD_inj]
  simp only [true_implies]
  exact ⟨h1 rfl _ rfl, fun z => z.elim⟩
theorem keyP_of {d : D} (h : isTh d = true) : ∃ t b : Int, d = .tup [.int t, .int b] ∧ keyP d = .tup [.int (t * 1000000 / b), d] ∧ pyD (keyP d) = .tuple [.int (t * 1000000 / b), .tuple [.int t, .int b]] ∧ (toPy (keyP d)).isSome := by
  obtain ⟨t, b, rfl, _⟩ := th_shape h
  exact ⟨t, b, rfl, rfl, rfl, rfl⟩
/-- the keys ascend -/
theorem leD_key {k t b k' t' b' : Int} (h : leD (.tup [.int k, .tup [.int t, .int b]]) (.tup [.int k', .tup [.int t', .int b']]) = true) : k ≤ k' := by
  cases Int.lt_or_le k' k with
  | inr z => exact z
  | inl z =>
    have e : leD (.tup [.int k, .tup [.int t, .int b]]) (.tup [.int k', .tup [.int t', .int b']]) = !(PyProof.Rows.lexLt PyProof.Rows.itemOrd [.inl 1, .inl k', .inl 1, .inl 1, .inl t', .inl 1, .inl b', .inl 0, .inl 0] [.inl 1, .inl k, .inl 1, .inl 1, .inl t, .inl 1, .inl b, .inl 0, .inl 0]) := rfl
    have e2 : PyProof.Rows.lexLt PyProof.Rows.itemOrd [.inl 1, .inl k', .inl 1, .inl 1, .inl t', .inl 1, .inl b', .inl 0, .inl 0] [.inl 1, .inl k, .inl 1, .inl 1, .inl t, .inl 1, .inl b, .inl 0, .inl 0] = true := by
      refine PyProof.Rows.lex_true.mpr (.inr ⟨rfl, PyProof.Rows.lex_true.mpr (.inl ?_)⟩)
      exact decide_eq_true z
    rw [e, e2] at h
    cases h
theorem le_of_keys {a b c d : Int} (hb : 1 ≤ b) (hb2 : b ≤ 144) (hd : 1 ≤ d) (hd2 : d ≤ 144) (h : a * 1000000 / b ≤ c * 1000000 / d) : a * d ≤ c * b := by
  cases Int.lt_or_le (c * b) (a * d) with
  | inr z => exact z
  | inl z =>
    exfalso
    have p1 : a * 1000000 < (a * 1000000 / b + 1) * b := by
      have := Int.lt_mul_ediv_self_add (x := a * 1000000) (show 0 < b by omega)
      rw [Int.add_mul, Int.one_mul, Int.mul_comm (a * 1000000 / b) b]
      exact this
    have p2 : c * 1000000 / d * d ≤ c * 1000000 := Int.ediv_mul_le _ (by omega)
    generalize a * 1000000 / b = p at *
    generalize c * 1000000 / d = p' at *
    have q1 := Int.mul_lt_mul_of_pos_right p1 (show 0 < d by omega)
    have q2 := Int.mul_le_mul_of_nonneg_right p2 (show 0 ≤ b by omega)
    have q3 := Int.mul_le_mul_of_nonneg_right (Int.mul_le_mul_of_nonneg_right h (show 0 ≤ d by omega)) (show 0 ≤ b by omega)
    have e1 : a * 1000000 * d = 1000000 * (a * d) := by simp only [Int.mul_assoc, Int.mul_comm, Int.mul_left_comm]
    have e2 : (p + 1) * b * d = p * d * b + b * d := by
      rw [Int.add_mul, Int.add_mul, Int.one_mul]
      congr 1
      simp only [Int.mul_assoc, Int.mul_comm, Int.mul_left_comm]
    have e3 : c * 1000000 * b = 1000000 * (c * b) := by simp only [Int.mul_assoc, Int.mul_comm, Int.mul_left_comm]
    have q4 : b * d ≤ 144 * 144 := Int.mul_le_mul hb2 hd2 (by omega) (by decide)
    rw [e1, e2] at q1
    rw [e3] at q2
    omega
theorem pairwise_zip {α : Type} {R : α → α → Prop} : ∀ {l : List α}, l.Pairwise R → ∀ i x y, l[i]? = some x → l[i + 1]? = some y → R x y
  | l, h, i, x, y, e1, e2 => by
    obtain ⟨h1, rfl⟩ := List.getElem?_eq_some_iff.mp e1
    obtain ⟨h2, rfl⟩ := List.getElem?_eq_some_iff.mp e2
    exact List.pairwise_iff_getElem.mp h i (i + 1) h1 h2 (by omega)
theorem ascP_pairs {ds : List D} (ht : ∀ d ∈ ds, isTh d = true) (h : ∀ i x y, ds[i]? = some x → ds[i + 1]? = some y → leP (.tup [x, y]) = true) : ascP ds = true := by
  unfold ascP
  rw [List.all_eq_true]
  intro p hp
  unfold zipD at hp
  obtain ⟨i, hi, rfl⟩ := List.getElem_of_mem hp
  rw [List.getElem_zipWith]
  have hi' : i < ds.length - 1 := by
    rw [List.length_zipWith, List.length_drop] at hi
    omega
  refine h i _ _ (List.getElem?_eq_getElem (by omega)) ?_
  rw [List.getElem_drop]
  have : 1 + i = i + 1 := by omega
  simp only [this]
  exact List.getElem?_eq_getElem (by omega)
theorem pure__law_in_order : PureD 1 3 (fs__law_in_order K) (w__law_in_order K) := by
  rintro cs q e - ⟨es, rfl, hl, hs, hq⟩
  simp only [w__law_in_order, wAsg2, wTold2, wEnumB, wListOfOwn, wRetOwnG, dcOf, wIsiT, offE, D.adr.injEq, Cont.pool.injEq, ixN31, ne_eq, List.map_cons, List.map_nil, wRaise0, wRaise1, wFrz, wEnumT, wDict0, wDict1, numD3, Nat.reduceAdd, atI0, atI1, atI2, atI3, atI4, ixN51, ixN52, ixN53, List.length_map, scal, V.int.injEq, V.str.injEq, V.bl.injEq, wSq, wNext, wBreak, wDrop, wRet, wIfS, wAsg, wPar, wLstOwn, wAppend, wSetOwn, wIxOwn, wPeek, wRetFr, wFor, wB, wNot, wAnd, wOr, wAndV, wOrV, wNotV, wChain, wNil, wCons, wCB, wTup, wLst, wNoPart, wPart, wSlT, wSeq, wRng1, wRng2, wZip, wName, wNilT, wConsT, wTupT, wYes, wNeg, wVar, wC, wOp, wcNil, wcCons, wcOwn, wCall, wCallOwn, slots, cellsOf, OwnArgs, putBack, g2I, g2IC, gLen, gAbs, gGcd, gInt1, gTupleOf, gListOf, gIx, gCatT, gCat, gEq, gNe, gIsN, gNotN, scD, seqD_t, seqD_l, seqD_f, isNonD, List.nodup_cons, List.mem_cons, List.not_mem_nil, or_false, not_false_eq_true, Nat.reduceEqDiff, L3.Keeps, ends, wipeD, List.replicate, List.cons_append, List.nil_append, List.append_nil, List.getElem?_cons_zero, List.getElem?_cons_succ, List.set_cons_zero, List.set_cons_succ, List.getD_cons_zero, List.getD_cons_succ, List.length_cons, List.length_nil, List.nodup_nil, Option.some.injEq, Cell.dat.injEq, Cell.own.injEq, Cont.lst.injEq, D.bl.injEq, D.int.injEq, D.str.injEq, D.tup.injEq, D.lst.injEq, Arg.d.injEq, List.cons.injEq, exists_and_left, exists_and_right, exists_eq_left', exists_eq_left, exists_eq_right, exists_eq_right', exists_eq, exists_eq', and_true, true_and, and_assoc, and_self, exists_const, reduceCtorEq, web_wE, web_pE, webD_inj]
  refine c1__law_in_order_ok hl hs fun c2 => ?_
  have hm : ∀ d ∈ es.map keyP, ∃ x ∈ es, d = keyP x := fun d hd => by
    obtain ⟨x, hx, rfl⟩ := List.mem_map.mp hd
    exact ⟨x, hx, rfl⟩
  have hpy : ∀ p ∈ (es.map keyP).map pyD, ∃ a t b : Int, p = .tuple [.int a, .tuple [.int t, .int b]] := fun p hp => by
    obtain ⟨d, hd, rfl⟩ := List.mem_map.mp hp
    obtain ⟨x, hx, rfl⟩ := hm d hd
    obtain ⟨t, b, _, _, e3, _⟩ := keyP_of (hs x hx)
    exact ⟨_, t, b, e3⟩
  refine ⟨es.map keyP, .inl rfl, fun d hd => ?_, fun p hp p' hp' => ?_, .inl fun p hp => ?_, fun d hd => ?_, ?_⟩
  · obtain ⟨x, hx, rfl⟩ := hm d hd
    obtain ⟨_, _, _, _, _, e4⟩ := keyP_of (hs x hx)
    exact e4
  · obtain ⟨a, t, b, rfl⟩ := hpy p hp
    obtain ⟨a', t', b', rfl⟩ := hpy p' hp'
    rfl
  · obtain ⟨a, t, b, rfl⟩ := hpy p hp
    exact ⟨_, _, rfl⟩
  · obtain ⟨a, t, b, e⟩ := hpy (pyD d) (List.mem_map.mpr ⟨d, hd, rfl⟩)
    rw [e]
    exact Nat.le_of_ble_eq_true rfl
  · have hp : ((es.map keyP).mergeSort leD).Perm (es.map keyP) := List.mergeSort_perm _ _
    have tot := PySem.W.sortLe_total (listOrd itemOrd) false fun b : D => PySem.W.keyToks (pyD b)
    have hpw : ((es.map keyP).mergeSort leD).Pairwise (fun a b => leD a b = true) := List.pairwise_mergeSort (le := leD) (fun a b c h1 h2 => tot.trans a b c h1 h2) (fun a b => Bool.or_eq_true_iff.mpr (tot.total a b)) _
    have hsub : ∀ d ∈ (es.map keyP).mergeSort leD, ∃ x ∈ es, d = keyP x := fun d hd => hm d (hp.mem_iff.mp hd)
    have hlen : ((es.map keyP).mergeSort leD).length = es.length := by rw [hp.length_eq, List.length_map]
    generalize (es.map keyP).mergeSort leD = ss at hsub hlen hpw
    have hmem : ∀ d ∈ ss.map sndP, d ∈ es := fun d hd => by
      obtain ⟨y, hy, rfl⟩ := List.mem_map.mp hd
      obtain ⟨x, hx, rfl⟩ := hsub y hy
      obtain ⟨t, b, _, e2, _⟩ := keyP_of (hs x hx)
      rw [e2]
      exact hx
    refine c2__law_in_order_ok (c3 := .any) (by omega) (fun d hd => ?_) ⟨ss.map sndP, rfl, trivial, hq _ (by rw [List.length_map, hlen]) hmem (ascP_pairs (fun d hd => hs d (hmem d hd)) fun i x y e1 e2 => ?_)⟩
    · obtain ⟨x, hx, rfl⟩ := hsub d hd
      obtain ⟨t, b, _, e2, _⟩ := keyP_of (hs x hx)
      exact ⟨_, _, e2⟩
    · rw [List.getElem?_map] at e1 e2
      cases f1 : ss[i]? with
      | none => rw [f1] at e1; cases e1
      | some u =>
        cases f2 : ss[i + 1]? with
        | none => rw [f2] at e2; cases e2
        | some v =>
          rw [f1] at e1
          rw [f2] at e2
          have key := pairwise_zip hpw i u v f1 f2
          obtain ⟨x', hx, rfl⟩ := hsub u (List.mem_of_getElem? f1)
          obtain ⟨y', hy, rfl⟩ := hsub v (List.mem_of_getElem? f2)
          obtain ⟨a, b, rfl, b1, b2, _, _⟩ := th_shape (hs _ hx)
          obtain ⟨c, d, rfl, d1, d2, _, _⟩ := th_shape (hs _ hy)
          cases e1
          cases e2
          simp only [sndP, keyP, leP, decide_eq_true_eq]
          exact le_of_keys b1 b2 d1 d2 (leD_key key)
theorem ok__law_in_order (T : Txt K mg) : FnOk P w K mg base (L2.CX P w) 1 T.f__law_in_order T.fd__law_in_order ["steps"] (spOf K 1 (fs__law_in_order K)) := by
  refine def_ok T.F__law_in_order sc__law_in_order (wb := w__law_in_order K) pure__law_in_order ?_
  intro cdv A outer s H E hr tk
  exact ⟨_, (pss_cons (ps_set (i := 1) sc__law_in_order.nd rfl (by first | exact Or.inl rfl | exact Or.inr rfl) (pe_callB (cr_sortG hr.units) (by rfl) T.z_sorted (by decide +kernel) (pa_cons (pe_lc (own := [("one", 2)]) (g := (gName 2)) (tt := tYes) (te := (tTup (tCons (tOp rDivW (tOp rMulA (tOp (rIx K) (tVar 2) (tC (.int 0))) (tOp rPowI (tC (.int 10)) (tC (.int 6)))) (tOp (rIx K) (tVar 2) (tC (.int 1)))) (tCons (tVar 2) tNil)))) rfl sc__law_in_order.nd (pi_seq (pv 0)) (blkOk_by (N := ["steps", "pairs", "one", "pair"]) (sc := defScope s__law_in_order) (by decide +kernel)) (fun _ _ _ _ _ => (pg_name (i := 2) sc__law_in_order.nd rfl (by first | exact Or.inl rfl | exact Or.inr rfl))) (fun _ _ _ _ _ => pts_nil) (fun _ _ _ _ _ => (pe_tup (pa_cons (pe_op op_fdivW (pe_op op_mulA (pe_ix ix_seq (pv 2) pe_int (fun _ _ => rfl)) (pe_op op_pow pe_int pe_int)) (pe_ix ix_seq (pv 2) pe_int (fun _ _ => rfl))) (pa_cons (pv 2) pa_nil))))) pa_nil)))
      (pss_one (ps_ret (pe_callTy call_tuple_of (by rfl) T.z_tuple (by decide +kernel) (pa_cons (pe_lc (own := [("pair", 3)]) (g := (gName 3)) (tt := tYes) (te := (tOp (rIx K) (tVar 3) (tC (.int 1)))) rfl sc__law_in_order.nd (pi_seq (pv 1)) (blkOk_by (N := ["steps", "pairs", "one", "pair"]) (sc := defScope s__law_in_order) (by decide +kernel)) (fun _ _ _ _ _ => (pg_name (i := 3) sc__law_in_order.nd rfl (by first | exact Or.inl rfl | exact Or.inr rfl))) (fun _ _ _ _ _ => pts_nil) (fun _ _ _ _ _ => (pe_ix ix_seq (pv 3) pe_int (fun _ _ => rfl)))) pa_nil))))),
    (ds_seq (ds_asg (de_cb o_sort (da_cons (de_lc (vs := [2]) (wI := (wSeq (wVar 0))) (wg := (wName 2)) (wt := wYes) (we := (wTup (wCons (wOp gDivW (wOp gMulA (wOp gIx (wVar 2) (wC (.int 0))) (wOp gPowI (wC (.int 10)) (wC (.int 6)))) (wOp gIx (wVar 2) (wC (.int 1)))) (wCons (wVar 2) wNil)))) (di_seq (de_var 0)) (dg_name 2) dt_yes (de_tup (da_cons (de_op o_fdivW (de_op o_mulA (de_op o_ix (de_var 2) de_int) (de_op o_pow de_int de_int)) (de_op o_ix (de_var 2) de_int)) (da_cons (de_var 2) da_nil))) (by decide)) da_nil)) (dg_name 1))
      (ds_ret (de_cb o_tupleOf (da_cons (de_lc (vs := [3]) (wI := (wSeq (wVar 1))) (wg := (wName 3)) (wt := wYes) (we := (wOp gIx (wVar 3) (wC (.int 1)))) (di_seq (de_var 1)) (dg_name 3) dt_yes (de_op o_ix (de_var 3) de_int) (by decide)) da_nil))))⟩
abbrev s__law_steps : Stmt := topS 50
theorem sc__law_steps : FnScope ["source", "most", "wide", "found", "k", "kind"] ["source", "most", "wide"] (defScope s__law_steps) := ⟨rfl, rfl, rfl, by decide +kernel, rfl, by decide +kernel, by decide +kernel⟩
def l1__law_steps (K : PySem.W.Frag) : SW := wFor (wRng1 (wCons (wOp gAddI (wC (.int 1)) (wCall 2 (fs__law_draw K) (wcOwn 0 (wcCons (wVar 1) wcNil)))) wNil)) (wName 4) (wSq (wAsg (wCall 2 (fs__law_draw K) (wcOwn 0 (wcCons (wC (.int 5)) wcNil))) (wName 5))
  (wIfS (wAnd (wB (wOp gEq (wVar 5) (wC (.int 0)))) (wB (wOp gGtI (wPeek 3 (fun es q => q (.int es.length))) (wC (.int 0))))) (wAppend 3 (wCons (wCall 2 (fs__law_pick_o1 K) (wcOwn 0 (wcOwn 3 wcNil))) wNil)) (wIfS (wAnd (wB (wOp gEq (wVar 5) (wC (.int 1)))) (wB (wVar 2))) (wAppend 3 (wCons (wCall 2 (fs__law_made K) (wcCons (wOp gAddI (wC (.int 1)) (wCall 2 (fs__law_draw K) (wcOwn 0 (wcCons (wOp gPowI (wC (.int 10)) (wC (.int 6))) wcNil)))) (wcCons (wOp gAddI (wC (.int 1)) (wCall 2 (fs__law_draw K) (wcOwn 0 (wcCons (wC (.int 144)) wcNil)))) wcNil))) wNil)) (wIfS (wB (wOp gEq (wVar 5) (wC (.int 2)))) (wAppend 3 (wCons (wCall 2 (fs__law_made K) (wcCons (wOp gAddI (wC (.int 1)) (wCall 2 (fs__law_draw K) (wcOwn 0 (wcCons (wC (.int 12)) wcNil)))) (wcCons (wOp gAddI (wC (.int 1)) (wCall 2 (fs__law_draw K) (wcOwn 0 (wcCons (wC (.int 4)) wcNil)))) wcNil))) wNil)) (wAppend 3 (wCons (wTup (wCons (wOp gAddI (wC (.int 1)) (wCall 2 (fs__law_draw K) (wcOwn 0 (wcCons (wC (.int 5)) wcNil)))) (wCons (wC (.int 1)) wNil))) wNil))))))
def w__law_steps (K : PySem.W.Frag) : SW := (wSq (wLstOwn 3 wNil)
  (wSq (l1__law_steps K)
  (wRet (wCall 1 (fs__law_in_order K) (wcCons (wFrz 3) wcNil)))))
/-- a list that is drawn -/
def StepsD (es : List D) : Prop := 1 ≤ es.length ∧ es.length ≤ 6 ∧ (∀ d ∈ es, isTh d = true) ∧ ascP es = true
def fs__law_steps (K : PySem.W.Frag) : FS := fun cs q _ => ∃ (p : Addr) (c : Cont) (m : Int) (w : Bool), cs = [.own p c, .dat (.int m), .dat (.bl w)] ∧ SrcC c ∧ 1 ≤ m ∧ m ≤ 6 ∧ ∀ (c' : Cont) (es : List D), SrcC c' → (es.length : Int) ≤ m → StepsD es → q (.tup es) [.own p c', .dat (.int m), .dat (.bl w)]
def InvSt (p0 p : Addr) (m : Int) (w : Bool) (i : Nat) (τ : List Cell) : Prop := ∃ (c : Cont) (es : List D) (c4 c5 : Cell), τ = [.own p0 c, .dat (.int m), .dat (.bl w), .own p (.lst es), c4, c5] ∧ SrcC c ∧ es.length = i ∧ ∀ d ∈ es, isTh d = true
theorem th_nf {t b : Int} (h1 : 0 < t) (h2 : 0 < b) (h3 : t ≤ 1000000) (h4 : b ≤ 144) : isTh (nf t b) = true := by
  obtain ⟨t', b', e1, b0, e2, e3, e4, e5⟩ := nf_parts (t := t) h2
  have t0 : 0 < t' := by
    have : 0 < b * t' := by rw [Int.mul_comm, e2]; exact Int.mul_pos h1 b0
    exact pos_right h2 this
  rw [e1]
  simp only [isTh, isFr, e5, Bool.and_eq_true, decide_eq_true_eq]
  refine ⟨⟨⟨⟨by omega, trivial⟩, by omega⟩, by omega⟩, by omega⟩
theorem all_snoc {P : D → Prop} {es : List D} {d : D} (h : ∀ d ∈ es, P d) (h2 : P d) : ∀ x ∈ es ++ [d], P x := fun x hx => by
  rcases List.mem_append.mp hx with hx | hx
  · exact h x hx
  · have : x = d := by simpa using hx
    rw [this]
    exact h2
theorem l1__law_steps_ok {p0 p : Addr} {c : Cont} {m : Int} {w : Bool} {c4 c5 : Cell} {E : EndsD} (hc : SrcC c) (m1 : 1 ≤ m) (m6 : m ≤ 6) (hn : ∀ (c : Cont) (es : List D) c4 c5, SrcC c → 1 ≤ es.length → (es.length : Int) ≤ m → (∀ d ∈ es, isTh d = true) → E.nx [.own p0 c, .dat (.int m), .dat (.bl w), .own p (.lst es), c4, c5]) :
    l1__law_steps K E [.own p0 c, .dat (.int m), .dat (.bl w), .own p (.lst []), c4, c5] := by
  unfold l1__law_steps wFor
  simp only [fs__law_draw, wAsg2, wTold2, wEnumB, wListOfOwn, wRetOwnG, dcOf, wIsiT, offE, D.adr.injEq, Cont.pool.injEq, ixN31, ne_eq, List.map_cons, List.map_nil, wRaise0, wRaise1, wFrz, wEnumT, wDict0, wDict1, numD3, Nat.reduceAdd, atI0, atI1, atI2, atI3, atI4, ixN51, ixN52, ixN53, List.length_map, scal, V.int.injEq, V.str.injEq, V.bl.injEq, wSq, wNext, wBreak, wDrop, wRet, wIfS, wAsg, wPar, wLstOwn, wAppend, wSetOwn, wIxOwn, wPeek, wRetFr, wFor, wB, wNot, wAnd, wOr, wAndV, wOrV, wNotV, wChain, wNil, wCons, wCB, wTup, wLst, wNoPart, wPart, wSlT, wSeq, wRng1, wRng2, wZip, wName, wNilT, wConsT, wTupT, wYes, wNeg, wVar, wC, wOp, wcNil, wcCons, wcOwn, wCall, wCallOwn, slots, cellsOf, OwnArgs, putBack, g2I, g2IC, gLen, gAbs, gGcd, gInt1, gTupleOf, gListOf, gIx, gCatT, gCat, gEq, gNe, gIsN, gNotN, scD, seqD_t, seqD_l, seqD_f, isNonD, List.nodup_cons, List.mem_cons, List.not_mem_nil, or_false, not_false_eq_true, Nat.reduceEqDiff, L3.Keeps, ends, wipeD, List.replicate, List.cons_append, List.nil_append, List.append_nil, List.getElem?_cons_zero, List.getElem?_cons_succ, List.set_cons_zero, List.set_cons_succ, List.getD_cons_zero, List.getD_cons_succ, List.length_cons, List.length_nil, List.nodup_nil, Option.some.injEq, Cell.dat.injEq, Cell.own.injEq, Cont.lst.injEq, D.bl.injEq, D.int.injEq, D.str.injEq, D.tup.injEq, D.lst.injEq, Arg.d.injEq, List.cons.injEq, exists_and_left, exists_and_right, exists_eq_left', exists_eq_left, exists_eq_right, exists_eq_right', exists_eq, exists_eq', and_true, true_and, and_assoc, and_self, exists_const, reduceCtorEq, web_wE, web_pE, webD_inj]
  refine ⟨hc, by omega, by omega, fun c' n hc' h0 h6 => ⟨by omega, by omega, InvSt p0 p m w, ⟨c', [], c4, c5, rfl, hc', rfl, fun d h => by simp at h⟩, ?_, ?_⟩⟩
  · rintro i d τ2 hi ⟨c, es, c4, c5, rfl, hc, hl, he⟩
    have hlt : i < 6 := by
      have := (List.getElem?_eq_some_iff.mp hi).1
      rw [rangeD_length] at this
      omega
    have cp : CPow 10 6 := ⟨by decide, by decide, by decide⟩
    have b200 : ∀ x : Int, 0 ≤ x → x < 2000000 → (1 + x).natAbs < 2 ^ 400 := fun x a b => Nat.lt_of_lt_of_le (show (1 + x).natAbs < 2 ^ 40 by omega) (Nat.pow_le_pow_right (by decide) (by decide))
    have mk : ∀ (c' : Cont) (x : D) (c5 : Cell), SrcC c' → isTh x = true → es.length < 1000 ∧ InvSt p0 p m w (i + 1) [.own p0 c', .dat (.int m), .dat (.bl w), .own p (.lst (es ++ [x])), .dat d, c5] := fun c' x c5 hc' hx =>
      ⟨by omega, c', es ++ [x], _, c5, rfl, hc', by rw [List.length_append, hl]; rfl, all_snoc he hx⟩
    have th1 : ∀ m : Int, 0 ≤ m → m < 5 → isTh (.tup [.int (1 + m), .int 1]) = true := fun m a b => by
      simp only [isTh, isFr, Bool.and_eq_true, decide_eq_true_eq]
      simp
      omega
    simp only [fs__law_draw, fs__law_made, fs__law_pick_o1, pow6, wAsg2, wTold2, wEnumB, wListOfOwn, wRetOwnG, dcOf, wIsiT, offE, D.adr.injEq, Cont.pool.injEq, ixN31, ne_eq, List.map_cons, List.map_nil, wRaise0, wRaise1, wFrz, wEnumT, wDict0, wDict1, numD3, Nat.reduceAdd, atI0, atI1, atI2, atI3, atI4, ixN51, ixN52, ixN53, List.length_map, scal, V.int.injEq, V.str.injEq, V.bl.injEq, wSq, wNext, wBreak, wDrop, wRet, wIfS, wAsg, wPar, wLstOwn, wAppend, wSetOwn, wIxOwn, wPeek, wRetFr, wFor, wB, wNot, wAnd, wOr, wAndV, wOrV, wNotV, wChain, wNil, wCons, wCB, wTup, wLst, wNoPart, wPart, wSlT, wSeq, wRng1, wRng2, wZip, wName, wNilT, wConsT, wTupT, wYes, wNeg, wVar, wC, wOp, wcNil, wcCons, wcOwn, wCall, wCallOwn, slots, cellsOf, OwnArgs, putBack, g2I, g2IC, gLen, gAbs, gGcd, gInt1, gTupleOf, gListOf, gIx, gCatT, gCat, gEq, gNe, gIsN, gNotN, scD, seqD_t, seqD_l, seqD_f, isNonD, List.nodup_cons, List.mem_cons, List.not_mem_nil, or_false, not_false_eq_true, Nat.reduceEqDiff, L3.Keeps, ends, wipeD, List.replicate, List.cons_append, List.nil_append, List.append_nil, List.getElem?_cons_zero, List.getElem?_cons_succ, List.set_cons_zero, List.set_cons_succ, List.getD_cons_zero, List.getD_cons_succ, List.length_cons, List.length_nil, List.nodup_nil, Option.some.injEq, Cell.dat.injEq, Cell.own.injEq, Cont.lst.injEq, D.bl.injEq, D.int.injEq, D.str.injEq, D.tup.injEq, D.lst.injEq, Arg.d.injEq, List.cons.injEq, exists_and_left, exists_and_right, exists_eq_left', exists_eq_left, exists_eq_right, exists_eq_right', exists_eq, exists_eq', and_true, true_and, and_assoc, and_self, exists_const, reduceCtorEq, web_wE, web_pE, webD_inj]
    refine ⟨hc, by decide, by decide, fun c1 n1 hc1 a1 a2 => ⟨fun z => ⟨fun z2 => ?_, fun z2 => ?_⟩, fun z => ⟨fun f => f.elim, fun _ => ?_⟩⟩⟩
    · have z2 := of_decide_eq_true z2
      exact ⟨hc1, by omega, by omega, fun c2 x hc2 hx => mk c2 x _ hc2 (he x hx)⟩
    all_goals
      refine ⟨fun z => ⟨fun _ => ?_, fun f => ?_⟩, fun z => ⟨fun f => f.elim, fun _ => ⟨fun z => ?_, fun z => ?_⟩⟩⟩
      · exact ⟨cp, hc1, by decide, by decide, fun c2 m hc2 b1 b2 => ⟨hc2, by decide, by decide, fun c3 m2 hc3 d1 d2 => ⟨by omega, b200 m2 d1 (by omega), mk c3 _ _ hc3 (th_nf (by omega) (by omega) (by omega) (by omega))⟩⟩⟩
      · refine ⟨fun z => ?_, fun z => ?_⟩
        · exact ⟨hc1, by decide, by decide, fun c2 m hc2 b1 b2 => ⟨hc2, by decide, by decide, fun c3 m2 hc3 d1 d2 => ⟨by omega, b200 m2 d1 (by omega), mk c3 _ _ hc3 (th_nf (by omega) (by omega) (by omega) (by omega))⟩⟩⟩
        · exact ⟨hc1, by decide, by decide, fun c2 m hc2 b1 b2 => ⟨by decide, mk c2 _ _ hc2 (th1 m b1 b2)⟩⟩
      · exact ⟨hc1, by decide, by decide, fun c2 m hc2 b1 b2 => ⟨hc2, by decide, by decide, fun c3 m2 hc3 d1 d2 => ⟨by omega, b200 m2 d1 (by omega), mk c3 _ _ hc3 (th_nf (by omega) (by omega) (by omega) (by omega))⟩⟩⟩
      · exact ⟨hc1, by decide, by decide, fun c2 m hc2 b1 b2 => ⟨by decide, mk c2 _ _ hc2 (th1 m b1 b2)⟩⟩
  · rintro τ2 ⟨c, es, c4, c5, rfl, hc, hl, he⟩
    rw [rangeD_length] at hl
    exact hn c es c4 c5 hc (by omega) (by omega) he
theorem pure__law_steps : PureD 3 3 (fs__law_steps K) (w__law_steps K) := by
  rintro cs q e - ⟨p0, c, m, w, rfl, hc, m1, m6, hq⟩
  simp only [w__law_steps, wAsg2, wTold2, wEnumB, wListOfOwn, wRetOwnG, dcOf, wIsiT, offE, D.adr.injEq, Cont.pool.injEq, ixN31, ne_eq, List.map_cons, List.map_nil, wRaise0, wRaise1, wFrz, wEnumT, wDict0, wDict1, numD3, Nat.reduceAdd, atI0, atI1, atI2, atI3, atI4, ixN51, ixN52, ixN53, List.length_map, scal, V.int.injEq, V.str.injEq, V.bl.injEq, wSq, wNext, wBreak, wDrop, wRet, wIfS, wAsg, wPar, wLstOwn, wAppend, wSetOwn, wIxOwn, wPeek, wRetFr, wFor, wB, wNot, wAnd, wOr, wAndV, wOrV, wNotV, wChain, wNil, wCons, wCB, wTup, wLst, wNoPart, wPart, wSlT, wSeq, wRng1, wRng2, wZip, wName, wNilT, wConsT, wTupT, wYes, wNeg, wVar, wC, wOp, wcNil, wcCons, wcOwn, wCall, wCallOwn, slots, cellsOf, OwnArgs, putBack, g2I, g2IC, gLen, gAbs, gGcd, gInt1, gTupleOf, gListOf, gIx, gCatT, gCat, gEq, gNe, gIsN, gNotN, scD, seqD_t, seqD_l, seqD_f, isNonD, List.nodup_cons, List.mem_cons, List.not_mem_nil, or_false, not_false_eq_true, Nat.reduceEqDiff, L3.Keeps, ends, wipeD, List.replicate, List.cons_append, List.nil_append, List.append_nil, List.getElem?_cons_zero, List.getElem?_cons_succ, List.set_cons_zero, List.set_cons_succ, List.getD_cons_zero, List.getD_cons_succ, List.length_cons, List.length_nil, List.nodup_nil, Option.some.injEq, Cell.dat.injEq, Cell.own.injEq, Cont.lst.injEq, D.bl.injEq, D.int.injEq, D.str.injEq, D.tup.injEq, D.lst.injEq, Arg.d.injEq, List.cons.injEq, exists_and_left, exists_and_right, exists_eq_left', exists_eq_left, exists_eq_right, exists_eq_right', exists_eq, exists_eq', and_true, true_and, and_assoc, and_self, exists_const, reduceCtorEq, web_wE, web_pE, webD_inj]
  refine ⟨by decide, fun p => l1__law_steps_ok hc m1 m6 fun c es c4 c5 hc h1 h6 he => ?_⟩
  simp only [fs__law_in_order, wAsg2, wTold2, wEnumB, wListOfOwn, wRetOwnG, dcOf, wIsiT, offE, D.adr.injEq, Cont.pool.injEq, ixN31, ne_eq, List.map_cons, List.map_nil, wRaise0, wRaise1, wFrz, wEnumT, wDict0, wDict1, numD3, Nat.reduceAdd, atI0, atI1, atI2, atI3, atI4, ixN51, ixN52, ixN53, List.length_map, scal, V.int.injEq, V.str.injEq, V.bl.injEq, wSq, wNext, wBreak, wDrop, wRet, wIfS, wAsg, wPar, wLstOwn, wAppend, wSetOwn, wIxOwn, wPeek, wRetFr, wFor, wB, wNot, wAnd, wOr, wAndV, wOrV, wNotV, wChain, wNil, wCons, wCB, wTup, wLst, wNoPart, wPart, wSlT, wSeq, wRng1, wRng2, wZip, wName, wNilT, wConsT, wTupT, wYes, wNeg, wVar, wC, wOp, wcNil, wcCons, wcOwn, wCall, wCallOwn, slots, cellsOf, OwnArgs, putBack, g2I, g2IC, gLen, gAbs, gGcd, gInt1, gTupleOf, gListOf, gIx, gCatT, gCat, gEq, gNe, gIsN, gNotN, scD, seqD_t, seqD_l, seqD_f, isNonD, List.nodup_cons, List.mem_cons, List.not_mem_nil, or_false, not_false_eq_true, Nat.reduceEqDiff, L3.Keeps, ends, wipeD, List.replicate, List.cons_append, List.nil_append, List.append_nil, List.getElem?_cons_zero, List.getElem?_cons_succ, List.set_cons_zero, List.set_cons_succ, List.getD_cons_zero, List.getD_cons_succ, List.length_cons, List.length_nil, List.nodup_nil, Option.some.injEq, Cell.dat.injEq, Cell.own.injEq, Cont.lst.injEq, D.bl.injEq, D.int.injEq, D.str.injEq, D.tup.injEq, D.lst.injEq, Arg.d.injEq, List.cons.injEq, exists_and_left, exists_and_right, exists_eq_left', exists_eq_left, exists_eq_right, exists_eq_right', exists_eq, exists_eq', and_true, true_and, and_assoc, and_self, exists_const, reduceCtorEq, web_wE, web_pE, webD_inj]
  refine ⟨by omega, he, fun gs hl hg ha => hq c gs hc (by omega) ⟨by omega, by omega, fun d hd => he d (hg d hd), ha⟩⟩
theorem ok__law_steps (T : Txt K mg) : FnOk P w K mg base (L2.CX P w) 4 T.f__law_steps T.fd__law_steps ["source", "most", "wide"] (spOf K 3 (fs__law_steps K)) := by
  refine def_ok T.F__law_steps sc__law_steps (wb := w__law_steps K) pure__law_steps ?_
  intro cdv A outer s H E hr tk
  exact ⟨_, (pss_cons (ps_set (i := 3) sc__law_steps.nd rfl (by first | exact Or.inl rfl | exact Or.inr rfl) (pe_lst pa_nil))
      (pss_cons (ps_for (passes_of rfl) rfl (pi_range1 (by rfl) T.z_range (pa_cons (pe_op op_add pe_int (pe_callS (ok__law_draw T) (hr.mono (by decide)) rfl T.g__law_draw T.k__law_draw T.b__law_draw (fun σ => passAt tk σ) (pa_cons (pv 0) (pa_cons (pv 1) pa_nil)))) pa_nil)) (pg_name (i := 4) sc__law_steps.nd rfl (by first | exact Or.inl rfl | exact Or.inr rfl))
        (pss_cons (ps_set (i := 5) sc__law_steps.nd rfl (by first | exact Or.inl rfl | exact Or.inr rfl) (pe_callS (ok__law_draw T) (hr.mono (by decide)) rfl T.g__law_draw T.k__law_draw T.b__law_draw (fun σ => passAt tk σ) (pa_cons (pv 0) (pa_cons pe_int pa_nil))))
      (pss_one (ps_if (PW.pt (pw_and (pt_cmpR op_eq (pv 5) pe_int (nomark _)) (pw_and1 (pt_cmpR op_gt (pe_callB call_len_seq (by rfl) T.z_len (by decide +kernel) (pa_cons (pv 3) pa_nil)) pe_int (nomark _)))))
        (pss_one (ps_expr (pe_bm PySem.F.plainAttrs_list PySem.F.slot_list_append PySem.F.type_list_append mt_append (pv 3) (pa_cons (pe_callS (ok__law_pick_o1 T) (hr.mono (by decide)) rfl T.g__law_pick T.k__law_pick T.b__law_pick (fun σ => passAt tk σ) (pa_cons (pv 0) (pa_cons (pv 3) pa_nil))) pa_nil))))
        (pss_one (ps_if (PW.pt (pw_and (pt_cmpR op_eq (pv 5) pe_int (nomark _)) (pw_and1 (pt_val (pv 2)))))
        (pss_one (ps_expr (pe_bm PySem.F.plainAttrs_list PySem.F.slot_list_append PySem.F.type_list_append mt_append (pv 3) (pa_cons (pe_callS (ok__law_made T) (hr.mono (by decide)) rfl T.g__law_made T.k__law_made T.b__law_made (fun σ => passAt tk σ) (pa_cons (pe_op op_add pe_int (pe_callS (ok__law_draw T) (hr.mono (by decide)) rfl T.g__law_draw T.k__law_draw T.b__law_draw (fun σ => passAt tk σ) (pa_cons (pv 0) (pa_cons (pe_op op_pow pe_int pe_int) pa_nil)))) (pa_cons (pe_op op_add pe_int (pe_callS (ok__law_draw T) (hr.mono (by decide)) rfl T.g__law_draw T.k__law_draw T.b__law_draw (fun σ => passAt tk σ) (pa_cons (pv 0) (pa_cons pe_int pa_nil)))) pa_nil))) pa_nil))))
        (pss_one (ps_if (pt_cmpR op_eq (pv 5) pe_int (nomark _))
        (pss_one (ps_expr (pe_bm PySem.F.plainAttrs_list PySem.F.slot_list_append PySem.F.type_list_append mt_append (pv 3) (pa_cons (pe_callS (ok__law_made T) (hr.mono (by decide)) rfl T.g__law_made T.k__law_made T.b__law_made (fun σ => passAt tk σ) (pa_cons (pe_op op_add pe_int (pe_callS (ok__law_draw T) (hr.mono (by decide)) rfl T.g__law_draw T.k__law_draw T.b__law_draw (fun σ => passAt tk σ) (pa_cons (pv 0) (pa_cons pe_int pa_nil)))) (pa_cons (pe_op op_add pe_int (pe_callS (ok__law_draw T) (hr.mono (by decide)) rfl T.g__law_draw T.k__law_draw T.b__law_draw (fun σ => passAt tk σ) (pa_cons (pv 0) (pa_cons pe_int pa_nil)))) pa_nil))) pa_nil))))
        (pss_one (ps_expr (pe_bm PySem.F.plainAttrs_list PySem.F.slot_list_append PySem.F.type_list_append mt_append (pv 3) (pa_cons (pe_tup (pa_cons (pe_op op_add pe_int (pe_callS (ok__law_draw T) (hr.mono (by decide)) rfl T.g__law_draw T.k__law_draw T.b__law_draw (fun σ => passAt tk σ) (pa_cons (pv 0) (pa_cons pe_int pa_nil)))) (pa_cons pe_int pa_nil))) pa_nil))))))))))))
      (pss_one (ps_ret (pe_callS (ok__law_in_order T) (hr.mono (by decide)) rfl T.g__law_in_order T.k__law_in_order T.b__law_in_order (fun σ => passAt tk σ) (pa_cons (pv 3) pa_nil)))))),
    (ds_seq (ds_lstOwn (i := 3) da_nil)
      (ds_seq (ds_for (wI := (wRng1 (wCons (wOp gAddI (wC (.int 1)) (wCall 2 (fs__law_draw K) (wcOwn 0 (wcCons (wVar 1) wcNil)))) wNil))) (wg := (wName 4)) (wb := (wSq (wAsg (wCall 2 (fs__law_draw K) (wcOwn 0 (wcCons (wC (.int 5)) wcNil))) (wName 5))
  (wIfS (wAnd (wB (wOp gEq (wVar 5) (wC (.int 0)))) (wB (wOp gGtI (wPeek 3 (fun es q => q (.int es.length))) (wC (.int 0))))) (wAppend 3 (wCons (wCall 2 (fs__law_pick_o1 K) (wcOwn 0 (wcOwn 3 wcNil))) wNil)) (wIfS (wAnd (wB (wOp gEq (wVar 5) (wC (.int 1)))) (wB (wVar 2))) (wAppend 3 (wCons (wCall 2 (fs__law_made K) (wcCons (wOp gAddI (wC (.int 1)) (wCall 2 (fs__law_draw K) (wcOwn 0 (wcCons (wOp gPowI (wC (.int 10)) (wC (.int 6))) wcNil)))) (wcCons (wOp gAddI (wC (.int 1)) (wCall 2 (fs__law_draw K) (wcOwn 0 (wcCons (wC (.int 144)) wcNil)))) wcNil))) wNil)) (wIfS (wB (wOp gEq (wVar 5) (wC (.int 2)))) (wAppend 3 (wCons (wCall 2 (fs__law_made K) (wcCons (wOp gAddI (wC (.int 1)) (wCall 2 (fs__law_draw K) (wcOwn 0 (wcCons (wC (.int 12)) wcNil)))) (wcCons (wOp gAddI (wC (.int 1)) (wCall 2 (fs__law_draw K) (wcOwn 0 (wcCons (wC (.int 4)) wcNil)))) wcNil))) wNil)) (wAppend 3 (wCons (wTup (wCons (wOp gAddI (wC (.int 1)) (wCall 2 (fs__law_draw K) (wcOwn 0 (wcCons (wC (.int 5)) wcNil)))) (wCons (wC (.int 1)) wNil))) wNil))))))) (di_rng1 (da_cons (de_op o_add de_int (de_call (n := 2) (fs := fs__law_draw K) (dac_own (j := 0) (dac_cons (de_var 1) dac_nil)))) da_nil)) (dg_name 4) (ds_seq (ds_asg (de_call (n := 2) (fs := fs__law_draw K) (dac_own (j := 0) (dac_cons de_int dac_nil))) (dg_name 5))
      (ds_if (dt_and (dt_B (de_op o_eq (de_var 5) de_int)) (dt_B (de_op o_gt (de_peek (i := 3) p_len) de_int))) (ds_append (i := 3) (da_cons (de_call (n := 2) (fs := fs__law_pick_o1 K) (dac_own (j := 0) (dac_own (j := 3) dac_nil))) da_nil)) (ds_if (dt_and (dt_B (de_op o_eq (de_var 5) de_int)) (dt_B (de_var 2))) (ds_append (i := 3) (da_cons (de_call (n := 2) (fs := fs__law_made K) (dac_cons (de_op o_add de_int (de_call (n := 2) (fs := fs__law_draw K) (dac_own (j := 0) (dac_cons (de_op o_pow de_int de_int) dac_nil)))) (dac_cons (de_op o_add de_int (de_call (n := 2) (fs := fs__law_draw K) (dac_own (j := 0) (dac_cons de_int dac_nil)))) dac_nil))) da_nil)) (ds_if (dt_B (de_op o_eq (de_var 5) de_int)) (ds_append (i := 3) (da_cons (de_call (n := 2) (fs := fs__law_made K) (dac_cons (de_op o_add de_int (de_call (n := 2) (fs := fs__law_draw K) (dac_own (j := 0) (dac_cons de_int dac_nil)))) (dac_cons (de_op o_add de_int (de_call (n := 2) (fs := fs__law_draw K) (dac_own (j := 0) (dac_cons de_int dac_nil)))) dac_nil))) da_nil)) (ds_append (i := 3) (da_cons (de_tup (da_cons (de_op o_add de_int (de_call (n := 2) (fs := fs__law_draw K) (dac_own (j := 0) (dac_cons de_int dac_nil)))) (da_cons de_int da_nil))) da_nil)))))))
      (ds_ret (de_call (n := 1) (fs := fs__law_in_order K) (dac_cons (de_frz 3) dac_nil)))))⟩
abbrev s__law_added : Stmt := topS 42
theorem sc__law_added : FnScope ["one", "other"] ["one", "other"] (defScope s__law_added) := ⟨rfl, rfl, rfl, by decide +kernel, rfl, by decide +kernel, by decide +kernel⟩
def w__law_added (K : PySem.W.Frag) : SW := (wRet (wCall 2 (fs__law_made K) (wcCons (wOp gAddI (wOp gMulA (wOp gIx (wVar 0) (wC (.int 0))) (wOp gIx (wVar 1) (wC (.int 1)))) (wOp gMulA (wOp gIx (wVar 1) (wC (.int 0))) (wOp gIx (wVar 0) (wC (.int 1))))) (wcCons (wOp gMulA (wOp gIx (wVar 0) (wC (.int 1))) (wOp gIx (wVar 1) (wC (.int 1)))) wcNil))))
def fs__law_added (K : PySem.W.Frag) : FS := fun cs q _ => ∃ (a b c d : Int), cs = [.dat (.tup [.int a, .int b]), .dat (.tup [.int c, .int d])] ∧ 0 < b ∧ 0 < d ∧ SmI 400 a b ∧ SmI 400 c d ∧ (b * d).natAbs < 2 ^ 400 ∧ q (nf (a * d + c * b) (b * d)) cs
theorem pure__law_added : PureD 2 0 (fs__law_added K) (w__law_added K) := by
  rintro cs q e - ⟨a, b, c, d, rfl, b0, d0, ⟨a1, b1⟩, ⟨c1, d1⟩, h, hq⟩
  simp only [w__law_added, fs__law_made, wAsg2, wTold2, wEnumB, wListOfOwn, wRetOwnG, dcOf, wIsiT, offE, D.adr.injEq, Cont.pool.injEq, ixN31, ne_eq, List.map_cons, List.map_nil, wRaise0, wRaise1, wFrz, wEnumT, wDict0, wDict1, numD3, Nat.reduceAdd, atI0, atI1, atI2, atI3, atI4, ixN51, ixN52, ixN53, List.length_map, scal, V.int.injEq, V.str.injEq, V.bl.injEq, wSq, wNext, wBreak, wDrop, wRet, wIfS, wAsg, wPar, wLstOwn, wAppend, wSetOwn, wIxOwn, wPeek, wRetFr, wFor, wB, wNot, wAnd, wOr, wAndV, wOrV, wNotV, wChain, wNil, wCons, wCB, wTup, wLst, wNoPart, wPart, wSlT, wSeq, wRng1, wRng2, wZip, wName, wNilT, wConsT, wTupT, wYes, wNeg, wVar, wC, wOp, wcNil, wcCons, wcOwn, wCall, wCallOwn, slots, cellsOf, OwnArgs, putBack, g2I, g2IC, gLen, gAbs, gGcd, gInt1, gTupleOf, gListOf, gIx, gCatT, gCat, gEq, gNe, gIsN, gNotN, scD, seqD_t, seqD_l, seqD_f, isNonD, List.nodup_cons, List.mem_cons, List.not_mem_nil, or_false, not_false_eq_true, Nat.reduceEqDiff, L3.Keeps, ends, wipeD, List.replicate, List.cons_append, List.nil_append, List.append_nil, List.getElem?_cons_zero, List.getElem?_cons_succ, List.set_cons_zero, List.set_cons_succ, List.getD_cons_zero, List.getD_cons_succ, List.length_cons, List.length_nil, List.nodup_nil, Option.some.injEq, Cell.dat.injEq, Cell.own.injEq, Cont.lst.injEq, D.bl.injEq, D.int.injEq, D.str.injEq, D.tup.injEq, D.lst.injEq, Arg.d.injEq, List.cons.injEq, exists_and_left, exists_and_right, exists_eq_left', exists_eq_left, exists_eq_right, exists_eq_right', exists_eq, exists_eq', and_true, true_and, and_assoc, and_self, exists_const, reduceCtorEq, web_wE, web_pE, webD_inj]
  have cm : ∀ {x y : Int}, x.natAbs < 2 ^ 400 → y.natAbs < 2 ^ 400 → CMulA x y := fun hx hy => cmul_w hx hy (by decide) (by decide) (by decide)
  exact ⟨cm a1 d1, cm c1 b1, cm b1 d1, Int.mul_pos b0 d0, h, hq⟩
theorem ok__law_added (T : Txt K mg) : FnOk P w K mg base (L2.CX P w) 3 T.f__law_added T.fd__law_added ["one", "other"] (spOf K 2 (fs__law_added K)) := by
  refine def_ok T.F__law_added sc__law_added (wb := w__law_added K) pure__law_added ?_
  intro cdv A outer s H E hr tk
  exact ⟨_, (pss_one (ps_ret (pe_callS (ok__law_made T) (hr.mono (by decide)) rfl T.g__law_made T.k__law_made T.b__law_made (fun σ => passAt tk σ) (pa_cons (pe_op op_add (pe_op op_mulA (pe_ix ix_seq (pv 0) pe_int (fun _ _ => rfl)) (pe_ix ix_seq (pv 1) pe_int (fun _ _ => rfl))) (pe_op op_mulA (pe_ix ix_seq (pv 1) pe_int (fun _ _ => rfl)) (pe_ix ix_seq (pv 0) pe_int (fun _ _ => rfl)))) (pa_cons (pe_op op_mulA (pe_ix ix_seq (pv 0) pe_int (fun _ _ => rfl)) (pe_ix ix_seq (pv 1) pe_int (fun _ _ => rfl))) pa_nil))))),
    (ds_ret (de_call (n := 2) (fs := fs__law_made K) (dac_cons (de_op o_add (de_op o_mulA (de_op o_ix (de_var 0) de_int) (de_op o_ix (de_var 1) de_int)) (de_op o_mulA (de_op o_ix (de_var 1) de_int) (de_op o_ix (de_var 0) de_int))) (dac_cons (de_op o_mulA (de_op o_ix (de_var 0) de_int) (de_op o_ix (de_var 1) de_int)) dac_nil))))⟩
/-! the math of measures -/
def letP (b m : Int) : D → Bool | .tup [.int o, .int u] => decide (o * b ≤ m * u) | _ => false
def absI (t : Int) : Int := if t < 0 then -t else t
def flowN (ds : List D) (t b : Int) : Int := if t < 0 then -((ds.filter (letP b (absI t))).length : Int) else ((ds.filter (letP b (absI t))).length : Int)
abbrev s__law_flow : Stmt := topS 51
theorem sc__law_flow : FnScope ["steps", "drop", "found", "step"] ["steps", "drop"] (defScope s__law_flow) := ⟨rfl, rfl, rfl, by decide +kernel, rfl, by decide +kernel, by decide +kernel⟩
def l1__law_flow (K : PySem.W.Frag) : SW := wFor (wSeq (wVar 0)) (wName 3) (wIfS (wB (wOp gLeI (wOp gMulA (wOp gIx (wVar 3) (wC (.int 0))) (wOp gIx (wVar 1) (wC (.int 1)))) (wOp gMulA (wCB gAbs (wCons (wOp gIx (wVar 1) (wC (.int 0))) wNil)) (wOp gIx (wVar 3) (wC (.int 1)))))) (wAsg (wOp gAddI (wVar 2) (wC (.int 1))) (wName 2)) wNext)
def w__law_flow (K : PySem.W.Frag) : SW := (wSq (wAsg (wC (.int 0)) (wName 2))
  (wSq (l1__law_flow K)
  (wSq (wIfS (wB (wOp gLtI (wOp gIx (wVar 1) (wC (.int 0))) (wC (.int 0)))) (wRet (wNeg (wVar 2))) wNext)
  (wRet (wVar 2)))))
/-- a pair of small integers -/
def SmP (d : D) : Prop := ∃ o u : Int, d = .tup [.int o, .int u] ∧ o.natAbs < 2 ^ 60 ∧ u.natAbs < 2 ^ 60
theorem th_smP {d : D} (h : isTh d = true) : SmP d := by
  obtain ⟨t, b, rfl, _⟩ := th_shape h
  exact ⟨t, b, rfl, by omega, by omega⟩
def fs__law_flow (K : PySem.W.Frag) : FS := fun cs q _ => ∃ (ds : List D) (t b : Int), cs = [.dat (.tup ds), .dat (.tup [.int t, .int b])] ∧ ds.length ≤ 6 ∧ (∀ d ∈ ds, SmP d) ∧ q (.int (flowN ds t b)) cs
def InvF (ds : List D) (t b : Int) (i : Nat) (τ : List Cell) : Prop := ∃ c, τ = [.dat (.tup ds), .dat (.tup [.int t, .int b]), .dat (.int (((ds.take i).filter (letP b (absI t))).length : Nat)), c]
theorem l1__law_flow_ok {ds : List D} {t b : Int} {c : Cell} {E : EndsD} (ht : ∀ d ∈ ds, SmP d)
    (hn : ∀ c, E.nx [.dat (.tup ds), .dat (.tup [.int t, .int b]), .dat (.int ((ds.filter (letP b (absI t))).length : Nat)), c]) : l1__law_flow K E [.dat (.tup ds), .dat (.tup [.int t, .int b]), .dat (.int 0), c] := by
  unfold l1__law_flow wFor
  refine ⟨_, rfl, ds, rfl, InvF ds t b, ⟨c, rfl⟩, ?_, ?_⟩
  · rintro i d τ2 hi ⟨c, rfl⟩
    obtain ⟨o, u, rfl, b1, b2⟩ := (ht d (List.mem_of_getElem? hi))
    have tk : ds.take (i + 1) = ds.take i ++ [.tup [.int o, .int u]] := by
      rw [List.take_add_one, hi]
      rfl
    simp only [wAsg2, wTold2, wEnumB, wListOfOwn, wRetOwnG, dcOf, wIsiT, offE, D.adr.injEq, Cont.pool.injEq, ixN31, ne_eq, List.map_cons, List.map_nil, wRaise0, wRaise1, wFrz, wEnumT, wDict0, wDict1, numD3, Nat.reduceAdd, atI0, atI1, atI2, atI3, atI4, ixN51, ixN52, ixN53, List.length_map, scal, V.int.injEq, V.str.injEq, V.bl.injEq, wSq, wNext, wBreak, wDrop, wRet, wIfS, wAsg, wPar, wLstOwn, wAppend, wSetOwn, wIxOwn, wPeek, wRetFr, wFor, wB, wNot, wAnd, wOr, wAndV, wOrV, wNotV, wChain, wNil, wCons, wCB, wTup, wLst, wNoPart, wPart, wSlT, wSeq, wRng1, wRng2, wZip, wName, wNilT, wConsT, wTupT, wYes, wNeg, wVar, wC, wOp, wcNil, wcCons, wcOwn, wCall, wCallOwn, slots, cellsOf, OwnArgs, putBack, g2I, g2IC, gLen, gAbs, gGcd, gInt1, gTupleOf, gListOf, gIx, gCatT, gCat, gEq, gNe, gIsN, gNotN, scD, seqD_t, seqD_l, seqD_f, isNonD, List.nodup_cons, List.mem_cons, List.not_mem_nil, or_false, not_false_eq_true, Nat.reduceEqDiff, L3.Keeps, ends, wipeD, List.replicate, List.cons_append, List.nil_append, List.append_nil, List.getElem?_cons_zero, List.getElem?_cons_succ, List.set_cons_zero, List.set_cons_succ, List.getD_cons_zero, List.getD_cons_succ, List.length_cons, List.length_nil, List.nodup_nil, Option.some.injEq, Cell.dat.injEq, Cell.own.injEq, Cont.lst.injEq, D.bl.injEq, D.int.injEq, D.str.injEq, D.tup.injEq, D.lst.injEq, Arg.d.injEq, List.cons.injEq, exists_and_left, exists_and_right, exists_eq_left', exists_eq_left, exists_eq_right, exists_eq_right', exists_eq, exists_eq', and_true, true_and, and_assoc, and_self, exists_const, reduceCtorEq, web_wE, web_pE, webD_inj]
    refine ⟨cmul_l (by omega) (by omega), cmul_r (by omega) (by omega), fun z => ⟨.dat (.tup [.int o, .int u]), ?_⟩, fun z => ⟨.dat (.tup [.int o, .int u]), ?_⟩⟩
    · have z : letP b (absI t) (.tup [.int o, .int u]) = true := z
      rw [tk, List.filter_append, List.length_append]
      simp [z]
    · have z : letP b (absI t) (.tup [.int o, .int u]) = false := z
      rw [tk, List.filter_append, List.length_append]
      simp [z]
  · rintro τ2 ⟨c, rfl⟩
    rw [List.take_length]
    exact hn c
theorem pure__law_flow : PureD 2 2 (fs__law_flow K) (w__law_flow K) := by
  rintro cs q e - ⟨ds, t, b, rfl, hn, ht, hq⟩
  simp only [w__law_flow, wAsg2, wTold2, wEnumB, wListOfOwn, wRetOwnG, dcOf, wIsiT, offE, D.adr.injEq, Cont.pool.injEq, ixN31, ne_eq, List.map_cons, List.map_nil, wRaise0, wRaise1, wFrz, wEnumT, wDict0, wDict1, numD3, Nat.reduceAdd, atI0, atI1, atI2, atI3, atI4, ixN51, ixN52, ixN53, List.length_map, scal, V.int.injEq, V.str.injEq, V.bl.injEq, wSq, wNext, wBreak, wDrop, wRet, wIfS, wAsg, wPar, wLstOwn, wAppend, wSetOwn, wIxOwn, wPeek, wRetFr, wFor, wB, wNot, wAnd, wOr, wAndV, wOrV, wNotV, wChain, wNil, wCons, wCB, wTup, wLst, wNoPart, wPart, wSlT, wSeq, wRng1, wRng2, wZip, wName, wNilT, wConsT, wTupT, wYes, wNeg, wVar, wC, wOp, wcNil, wcCons, wcOwn, wCall, wCallOwn, slots, cellsOf, OwnArgs, putBack, g2I, g2IC, gLen, gAbs, gGcd, gInt1, gTupleOf, gListOf, gIx, gCatT, gCat, gEq, gNe, gIsN, gNotN, scD, seqD_t, seqD_l, seqD_f, isNonD, List.nodup_cons, List.mem_cons, List.not_mem_nil, or_false, not_false_eq_true, Nat.reduceEqDiff, L3.Keeps, ends, wipeD, List.replicate, List.cons_append, List.nil_append, List.append_nil, List.getElem?_cons_zero, List.getElem?_cons_succ, List.set_cons_zero, List.set_cons_succ, List.getD_cons_zero, List.getD_cons_succ, List.length_cons, List.length_nil, List.nodup_nil, Option.some.injEq, Cell.dat.injEq, Cell.own.injEq, Cont.lst.injEq, D.bl.injEq, D.int.injEq, D.str.injEq, D.tup.injEq, D.lst.injEq, Arg.d.injEq, List.cons.injEq, exists_and_left, exists_and_right, exists_eq_left', exists_eq_left, exists_eq_right, exists_eq_right', exists_eq, exists_eq', and_true, true_and, and_assoc, and_self, exists_const, reduceCtorEq, web_wE, web_pE, webD_inj]
  refine l1__law_flow_ok ht fun c => ?_
  simp only [wAsg2, wTold2, wEnumB, wListOfOwn, wRetOwnG, dcOf, wIsiT, offE, D.adr.injEq, Cont.pool.injEq, ixN31, ne_eq, List.map_cons, List.map_nil, wRaise0, wRaise1, wFrz, wEnumT, wDict0, wDict1, numD3, Nat.reduceAdd, atI0, atI1, atI2, atI3, atI4, ixN51, ixN52, ixN53, List.length_map, scal, V.int.injEq, V.str.injEq, V.bl.injEq, wSq, wNext, wBreak, wDrop, wRet, wIfS, wAsg, wPar, wLstOwn, wAppend, wSetOwn, wIxOwn, wPeek, wRetFr, wFor, wB, wNot, wAnd, wOr, wAndV, wOrV, wNotV, wChain, wNil, wCons, wCB, wTup, wLst, wNoPart, wPart, wSlT, wSeq, wRng1, wRng2, wZip, wName, wNilT, wConsT, wTupT, wYes, wNeg, wVar, wC, wOp, wcNil, wcCons, wcOwn, wCall, wCallOwn, slots, cellsOf, OwnArgs, putBack, g2I, g2IC, gLen, gAbs, gGcd, gInt1, gTupleOf, gListOf, gIx, gCatT, gCat, gEq, gNe, gIsN, gNotN, scD, seqD_t, seqD_l, seqD_f, isNonD, List.nodup_cons, List.mem_cons, List.not_mem_nil, or_false, not_false_eq_true, Nat.reduceEqDiff, L3.Keeps, ends, wipeD, List.replicate, List.cons_append, List.nil_append, List.append_nil, List.getElem?_cons_zero, List.getElem?_cons_succ, List.set_cons_zero, List.set_cons_succ, List.getD_cons_zero, List.getD_cons_succ, List.length_cons, List.length_nil, List.nodup_nil, Option.some.injEq, Cell.dat.injEq, Cell.own.injEq, Cont.lst.injEq, D.bl.injEq, D.int.injEq, D.str.injEq, D.tup.injEq, D.lst.injEq, Arg.d.injEq, List.cons.injEq, exists_and_left, exists_and_right, exists_eq_left', exists_eq_left, exists_eq_right, exists_eq_right', exists_eq, exists_eq', and_true, true_and, and_assoc, and_self, exists_const, reduceCtorEq, web_wE, web_pE, webD_inj]
  by_cases h : t < 0
  · simp only [flowN, h, if_true] at hq
    simp only [h, decide_true, true_implies, reduceCtorEq, false_implies, and_true]
    exact hq
  · simp only [flowN, h, if_false] at hq
    simp only [h, decide_false, true_implies, reduceCtorEq, false_implies, true_and]
    exact hq
theorem ok__law_flow (T : Txt K mg) : FnOk P w K mg base (L2.CX P w) 1 T.f__law_flow T.fd__law_flow ["steps", "drop"] (spOf K 2 (fs__law_flow K)) := by
  refine def_ok T.F__law_flow sc__law_flow (wb := w__law_flow K) pure__law_flow ?_
  intro cdv A outer s H E hr tk
  exact ⟨_, (pss_cons (ps_set (i := 2) sc__law_flow.nd rfl (by first | exact Or.inl rfl | exact Or.inr rfl) pe_int)
      (pss_cons (ps_for (passes_of rfl) rfl (pi_seq (pv 0)) (pg_name (i := 3) sc__law_flow.nd rfl (by first | exact Or.inl rfl | exact Or.inr rfl))
        (pss_one (ps_if (pt_cmpR op_le (pe_op op_mulA (pe_ix ix_seq (pv 3) pe_int (fun _ _ => rfl)) (pe_ix ix_seq (pv 1) pe_int (fun _ _ => rfl))) (pe_op op_mulA (pe_callB call_abs (by rfl) T.z_abs (by decide +kernel) (pa_cons (pe_ix ix_seq (pv 1) pe_int (fun _ _ => rfl)) pa_nil)) (pe_ix ix_seq (pv 3) pe_int (fun _ _ => rfl))) (nomark _))
        (pss_one (ps_set (i := 2) sc__law_flow.nd rfl (by first | exact Or.inl rfl | exact Or.inr rfl) (pe_op op_add (pv 2) pe_int)))
        pss_nil)))
      (pss_cons (ps_if (pt_cmpR op_lt (pe_ix ix_seq (pv 1) pe_int (fun _ _ => rfl)) pe_int (nomark _))
        (pss_one (ps_ret (pe_un un_neg (pv 2))))
        pss_nil)
      (pss_one (ps_ret (pv 2)))))),
    (ds_seq (ds_asg de_int (dg_name 2))
      (ds_seq (ds_for (wI := (wSeq (wVar 0))) (wg := (wName 3)) (wb := (wIfS (wB (wOp gLeI (wOp gMulA (wOp gIx (wVar 3) (wC (.int 0))) (wOp gIx (wVar 1) (wC (.int 1)))) (wOp gMulA (wCB gAbs (wCons (wOp gIx (wVar 1) (wC (.int 0))) wNil)) (wOp gIx (wVar 3) (wC (.int 1)))))) (wAsg (wOp gAddI (wVar 2) (wC (.int 1))) (wName 2)) wNext)) (di_seq (de_var 0)) (dg_name 3) (ds_if (dt_B (de_op o_le (de_op o_mulA (de_op o_ix (de_var 3) de_int) (de_op o_ix (de_var 1) de_int)) (de_op o_mulA (de_cb o_abs (da_cons (de_op o_ix (de_var 1) de_int) da_nil)) (de_op o_ix (de_var 3) de_int)))) (ds_asg (de_op o_add (de_var 2) de_int) (dg_name 2)) ds_nil))
      (ds_seq (ds_if (dt_B (de_op o_lt (de_op o_ix (de_var 1) de_int) de_int)) (ds_ret (de_neg (de_var 2))) ds_nil)
      (ds_ret (de_var 2)))))⟩
abbrev s__law_drop_near : Stmt := topS 56
theorem sc__law_drop_near : FnScope ["source", "steps", "offset", "drop"] ["source", "steps"] (defScope s__law_drop_near) := ⟨rfl, rfl, rfl, by decide +kernel, rfl, by decide +kernel, by decide +kernel⟩
def w__law_drop_near (K : PySem.W.Frag) : SW := (wSq (wAsg (wCall 2 (fs__law_pick K) (wcOwn 0 (wcCons (wLst (wCons (wTup (wCons (wC (.int 0)) (wCons (wC (.int 1)) wNil))) (wCons (wTup (wCons (wC (.int 0)) (wCons (wC (.int 1)) wNil))) (wCons (wTup (wCons (wC (.int 1)) (wCons (wC (.int 144)) wNil))) (wCons (wTup (wCons (wNeg (wC (.int 1))) (wCons (wC (.int 144)) wNil))) (wCons (wTup (wCons (wC (.int 1)) (wCons (wOp gPowI (wC (.int 10)) (wC (.int 12))) wNil))) (wCons (wTup (wCons (wNeg (wC (.int 1))) (wCons (wOp gPowI (wC (.int 10)) (wC (.int 12))) wNil))) (wCons (wTup (wCons (wNeg (wC (.int 3))) (wCons (wC (.int 1)) wNil))) (wCons (wTup (wCons (wOp gPowI (wC (.int 10)) (wC (.int 18))) (wCons (wC (.int 1)) wNil))) (wCons (wTup (wCons (wC (.int 2)) (wCons (wC (.int 7)) wNil))) wNil)))))))))) wcNil))) (wName 2))
  (wSq (wAsg (wCall 2 (fs__law_added K) (wcCons (wCall 2 (fs__law_pick K) (wcOwn 0 (wcCons (wVar 1) wcNil))) (wcCons (wVar 2) wcNil))) (wName 3))
  (wSq (wIfS (wB (wOp gEq (wCall 2 (fs__law_draw K) (wcOwn 0 (wcCons (wC (.int 9)) wcNil))) (wC (.int 0)))) (wAsg (wTup (wCons (wC (.int 0)) (wCons (wC (.int 1)) wNil))) (wName 3)) wNext)
  (wSq (wIfS (wB (wOp gEq (wCall 2 (fs__law_draw K) (wcOwn 0 (wcCons (wC (.int 2)) wcNil))) (wC (.int 0)))) (wAsg (wTup (wCons (wNeg (wOp gIx (wVar 3) (wC (.int 0)))) (wCons (wOp gIx (wVar 3) (wC (.int 1))) wNil))) (wName 3)) wNext)
  (wRet (wVar 3))))))
def DrOk (t b : Int) : Prop := isFr (.tup [.int t, .int b]) = true ∧ t.natAbs < 2 ^ 150 ∧ b.natAbs < 2 ^ 150
def fs__law_drop_near (K : PySem.W.Frag) : FS := fun cs q _ => ∃ (p : Addr) (c : Cont) (es : List D), cs = [.own p c, .dat (.tup es)] ∧ SrcC c ∧ StepsD es ∧ ∀ (c' : Cont) (t b : Int), SrcC c' → DrOk t b → q (.tup [.int t, .int b]) [.own p c', .dat (.tup es)]
theorem fr_neg {t b : Int} (h : DrOk t b) : DrOk (-t) b := by
  obtain ⟨h1, h2, h3⟩ := h
  refine ⟨?_, by rw [Int.natAbs_neg]; exact h2, h3⟩
  show (decide (1 ≤ b) && decide (Nat.gcd (-t).natAbs b.natAbs = 1)) = true
  have h1 : (decide (1 ≤ b) && decide (Nat.gcd t.natAbs b.natAbs = 1)) = true := h1
  simp only [Int.natAbs_neg]
  exact h1
theorem fr_nf {t b : Int} (hb : 0 < b) (h1 : t.natAbs < 2 ^ 150) (h2 : b.natAbs < 2 ^ 150) : ∃ t' b', nf t b = .tup [.int t', .int b'] ∧ DrOk t' b' := by
  obtain ⟨t', b', e, b0, _, e3, e4, e5⟩ := nf_parts (t := t) hb
  refine ⟨t', b', e, ?_, Nat.lt_of_le_of_lt e3 h1, Nat.lt_of_le_of_lt e4 h2⟩
  show (decide (1 ≤ b') && decide (Nat.gcd t'.natAbs b'.natAbs = 1)) = true
  simp only [Bool.and_eq_true, decide_eq_true_eq]
  exact ⟨by omega, e5⟩
theorem pow12 : (10 : Int) ^ Int.toNat 12 = 1000000000000 := by decide +kernel
theorem pow18 : (10 : Int) ^ Int.toNat 18 = 1000000000000000000 := by decide +kernel
theorem pure__law_drop_near : PureD 2 2 (fs__law_drop_near K) (w__law_drop_near K) := by
  rintro cs q e - ⟨p0, c, es, rfl, hc, hs, hq⟩
  have c12 : CPow 10 12 := ⟨by decide, by decide, by decide⟩
  have c18 : CPow 10 18 := ⟨by decide, by decide, by decide⟩
  have l1 := hs.1
  have l6 := hs.2.1
  simp only [w__law_drop_near, fs__law_pick, fs__law_draw, fs__law_added, seqD_l, seqD_t, c12, c18, pow12, pow18, wAsg2, wTold2, wEnumB, wListOfOwn, wRetOwnG, dcOf, wIsiT, offE, D.adr.injEq, Cont.pool.injEq, ixN31, ne_eq, List.map_cons, List.map_nil, wRaise0, wRaise1, wFrz, wEnumT, wDict0, wDict1, numD3, Nat.reduceAdd, atI0, atI1, atI2, atI3, atI4, ixN51, ixN52, ixN53, List.length_map, scal, V.int.injEq, V.str.injEq, V.bl.injEq, wSq, wNext, wBreak, wDrop, wRet, wIfS, wAsg, wPar, wLstOwn, wAppend, wSetOwn, wIxOwn, wPeek, wRetFr, wFor, wB, wNot, wAnd, wOr, wAndV, wOrV, wNotV, wChain, wNil, wCons, wCB, wTup, wLst, wNoPart, wPart, wSlT, wSeq, wRng1, wRng2, wZip, wName, wNilT, wConsT, wTupT, wYes, wNeg, wVar, wC, wOp, wcNil, wcCons, wcOwn, wCall, wCallOwn, slots, cellsOf, OwnArgs, putBack, g2I, g2IC, gLen, gAbs, gGcd, gInt1, gTupleOf, gListOf, gIx, gCatT, gCat, gEq, gNe, gIsN, gNotN, scD, seqD_t, seqD_l, seqD_f, isNonD, List.nodup_cons, List.mem_cons, List.not_mem_nil, or_false, not_false_eq_true, Nat.reduceEqDiff, L3.Keeps, ends, wipeD, List.replicate, List.cons_append, List.nil_append, List.append_nil, List.getElem?_cons_zero, List.getElem?_cons_succ, List.set_cons_zero, List.set_cons_succ, List.getD_cons_zero, List.getD_cons_succ, List.length_cons, List.length_nil, List.nodup_nil, Option.some.injEq, Cell.dat.injEq, Cell.own.injEq, Cont.lst.injEq, D.bl.injEq, D.int.injEq, D.str.injEq, D.tup.injEq, D.lst.injEq, Arg.d.injEq, List.cons.injEq, exists_and_left, exists_and_right, exists_eq_left', exists_eq_left, exists_eq_right, exists_eq_right', exists_eq, exists_eq', and_true, true_and, and_assoc, and_self, exists_const, reduceCtorEq, web_wE, web_pE, webD_inj]
  refine ⟨by decide, by decide, by decide, by decide, by decide, by decide, by decide, by decide, by decide, by decide, hc, by decide, by decide, fun c1 x hc1 hx => ⟨hc1, by omega, by omega, fun c2 y hc2 hy => ?_⟩⟩
  obtain ⟨o, u, rfl, u0, u1, o1⟩ : ∃ o u : Int, x = .tup [.int o, .int u] ∧ 0 < u ∧ u.natAbs ≤ 1000000000000 ∧ o.natAbs ≤ 1000000000000000000 := by
    rcases hx with rfl | rfl | rfl | rfl | rfl | rfl | rfl | rfl | rfl <;> exact ⟨_, _, rfl, by decide, by decide, by decide⟩
  obtain ⟨t, b, rfl, b0, b1, t0, t1⟩ := th_shape (hs.2.2.1 y hy)
  have k1 : (t * u).natAbs ≤ 1000000 * 1000000000000 := by
    rw [Int.natAbs_mul]
    exact Nat.mul_le_mul (by omega) u1
  have k2 : (o * b).natAbs ≤ 1000000000000000000 * 144 := by
    rw [Int.natAbs_mul]
    exact Nat.mul_le_mul o1 (by omega)
  have k3 : (b * u).natAbs ≤ 144 * 1000000000000 := by
    rw [Int.natAbs_mul]
    exact Nat.mul_le_mul (by omega) u1
  have k4 : (t * u + o * b).natAbs ≤ (t * u).natAbs + (o * b).natAbs := Int.natAbs_add_le _ _
  have p150 : (1000000000000000000000 : Nat) < 2 ^ 150 := by decide
  have p400 : (2 : Nat) ^ 150 < 2 ^ 400 := by decide
  obtain ⟨t', b', e, hd⟩ := fr_nf (t := t * u + o * b) (b := b * u) (Int.mul_pos (by omega) u0) (by omega) (by omega)
  have d01 : DrOk 0 1 := ⟨rfl, by decide, by decide⟩
  refine ⟨t, b, rfl, o, u, rfl, by omega, u0, ⟨by omega, by omega⟩, ⟨by omega, by omega⟩, by omega, hc2, by decide, by decide, fun c3 n hc3 n0 n9 => ⟨fun z => ⟨by decide, hc3, by decide, by decide, fun c4 m hc4 _ _ => ⟨fun _ => ⟨by decide, hq c4 _ _ hc4 (fr_neg d01)⟩, fun _ => hq c4 _ _ hc4 d01⟩⟩, fun z => ⟨hc3, by decide, by decide, fun c4 m hc4 _ _ => ?_⟩⟩⟩
  rw [e]
  simp only [seqD_t, atI0, atI1, wAsg2, wTold2, wEnumB, wListOfOwn, wRetOwnG, dcOf, wIsiT, offE, D.adr.injEq, Cont.pool.injEq, ixN31, ne_eq, List.map_cons, List.map_nil, wRaise0, wRaise1, wFrz, wEnumT, wDict0, wDict1, numD3, Nat.reduceAdd, atI0, atI1, atI2, atI3, atI4, ixN51, ixN52, ixN53, List.length_map, scal, V.int.injEq, V.str.injEq, V.bl.injEq, wSq, wNext, wBreak, wDrop, wRet, wIfS, wAsg, wPar, wLstOwn, wAppend, wSetOwn, wIxOwn, wPeek, wRetFr, wFor, wB, wNot, wAnd, wOr, wAndV, wOrV, wNotV, wChain, wNil, wCons, wCB, wTup, wLst, wNoPart, wPart, wSlT, wSeq, wRng1, wRng2, wZip, wName, wNilT, wConsT, wTupT, wYes, wNeg, wVar, wC, wOp, wcNil, wcCons, wcOwn, wCall, wCallOwn, slots, cellsOf, OwnArgs, putBack, g2I, g2IC, gLen, gAbs, gGcd, gInt1, gTupleOf, gListOf, gIx, gCatT, gCat, gEq, gNe, gIsN, gNotN, scD, seqD_t, seqD_l, seqD_f, isNonD, List.nodup_cons, List.mem_cons, List.not_mem_nil, or_false, not_false_eq_true, Nat.reduceEqDiff, L3.Keeps, ends, wipeD, List.replicate, List.cons_append, List.nil_append, List.append_nil, List.getElem?_cons_zero, List.getElem?_cons_succ, List.set_cons_zero, List.set_cons_succ, List.getD_cons_zero, List.getD_cons_succ, List.length_cons, List.length_nil, List.nodup_nil, Option.some.injEq, Cell.dat.injEq, Cell.own.injEq, Cont.lst.injEq, D.bl.injEq, D.int.injEq, D.str.injEq, D.tup.injEq, D.lst.injEq, Arg.d.injEq, List.cons.injEq, exists_and_left, exists_and_right, exists_eq_left', exists_eq_left, exists_eq_right, exists_eq_right', exists_eq, exists_eq', and_true, true_and, and_assoc, and_self, exists_const, reduceCtorEq, web_wE, web_pE, webD_inj]
  exact ⟨fun _ => ⟨by decide, hq c4 _ _ hc4 (fr_neg hd)⟩, fun _ => hq c4 _ _ hc4 hd⟩
theorem ok__law_drop_near (T : Txt K mg) : FnOk P w K mg base (L2.CX P w) 4 T.f__law_drop_near T.fd__law_drop_near ["source", "steps"] (spOf K 2 (fs__law_drop_near K)) := by
  refine def_ok T.F__law_drop_near sc__law_drop_near (wb := w__law_drop_near K) pure__law_drop_near ?_
  intro cdv A outer s H E hr tk
  exact ⟨_, (pss_cons (ps_set (i := 2) sc__law_drop_near.nd rfl (by first | exact Or.inl rfl | exact Or.inr rfl) (pe_callS (ok__law_pick T) (hr.mono (by decide)) rfl T.g__law_pick T.k__law_pick T.b__law_pick (fun σ => passAt tk σ) (pa_cons (pv 0) (pa_cons (pe_lst (pa_cons (pe_tup (pa_cons pe_int (pa_cons pe_int pa_nil))) (pa_cons (pe_tup (pa_cons pe_int (pa_cons pe_int pa_nil))) (pa_cons (pe_tup (pa_cons pe_int (pa_cons pe_int pa_nil))) (pa_cons (pe_tup (pa_cons (pe_un un_neg pe_int) (pa_cons pe_int pa_nil))) (pa_cons (pe_tup (pa_cons pe_int (pa_cons (pe_op op_pow pe_int pe_int) pa_nil))) (pa_cons (pe_tup (pa_cons (pe_un un_neg pe_int) (pa_cons (pe_op op_pow pe_int pe_int) pa_nil))) (pa_cons (pe_tup (pa_cons (pe_un un_neg pe_int) (pa_cons pe_int pa_nil))) (pa_cons (pe_tup (pa_cons (pe_op op_pow pe_int pe_int) (pa_cons pe_int pa_nil))) (pa_cons (pe_tup (pa_cons pe_int (pa_cons pe_int pa_nil))) pa_nil)))))))))) pa_nil))))
      (pss_cons (ps_set (i := 3) sc__law_drop_near.nd rfl (by first | exact Or.inl rfl | exact Or.inr rfl) (pe_callS (ok__law_added T) (hr.mono (by decide)) rfl T.g__law_added T.k__law_added T.b__law_added (fun σ => passAt tk σ) (pa_cons (pe_callS (ok__law_pick T) (hr.mono (by decide)) rfl T.g__law_pick T.k__law_pick T.b__law_pick (fun σ => passAt tk σ) (pa_cons (pv 0) (pa_cons (pv 1) pa_nil))) (pa_cons (pv 2) pa_nil))))
      (pss_cons (ps_if (pt_cmpR op_eq (pe_callS (ok__law_draw T) (hr.mono (by decide)) rfl T.g__law_draw T.k__law_draw T.b__law_draw (fun σ => passAt tk σ) (pa_cons (pv 0) (pa_cons pe_int pa_nil))) pe_int (nomark _))
        (pss_one (ps_set (i := 3) sc__law_drop_near.nd rfl (by first | exact Or.inl rfl | exact Or.inr rfl) (pe_tup (pa_cons pe_int (pa_cons pe_int pa_nil)))))
        pss_nil)
      (pss_cons (ps_if (pt_cmpR op_eq (pe_callS (ok__law_draw T) (hr.mono (by decide)) rfl T.g__law_draw T.k__law_draw T.b__law_draw (fun σ => passAt tk σ) (pa_cons (pv 0) (pa_cons pe_int pa_nil))) pe_int (nomark _))
        (pss_one (ps_set (i := 3) sc__law_drop_near.nd rfl (by first | exact Or.inl rfl | exact Or.inr rfl) (pe_tup (pa_cons (pe_un un_neg (pe_ix ix_seq (pv 3) pe_int (fun _ _ => rfl))) (pa_cons (pe_ix ix_seq (pv 3) pe_int (fun _ _ => rfl)) pa_nil)))))
        pss_nil)
      (pss_one (ps_ret (pv 3))))))),
    (ds_seq (ds_asg (de_call (n := 2) (fs := fs__law_pick K) (dac_own (j := 0) (dac_cons (de_lst (da_cons (de_tup (da_cons de_int (da_cons de_int da_nil))) (da_cons (de_tup (da_cons de_int (da_cons de_int da_nil))) (da_cons (de_tup (da_cons de_int (da_cons de_int da_nil))) (da_cons (de_tup (da_cons (de_neg de_int) (da_cons de_int da_nil))) (da_cons (de_tup (da_cons de_int (da_cons (de_op o_pow de_int de_int) da_nil))) (da_cons (de_tup (da_cons (de_neg de_int) (da_cons (de_op o_pow de_int de_int) da_nil))) (da_cons (de_tup (da_cons (de_neg de_int) (da_cons de_int da_nil))) (da_cons (de_tup (da_cons (de_op o_pow de_int de_int) (da_cons de_int da_nil))) (da_cons (de_tup (da_cons de_int (da_cons de_int da_nil))) da_nil)))))))))) dac_nil))) (dg_name 2))
      (ds_seq (ds_asg (de_call (n := 2) (fs := fs__law_added K) (dac_cons (de_call (n := 2) (fs := fs__law_pick K) (dac_own (j := 0) (dac_cons (de_var 1) dac_nil))) (dac_cons (de_var 2) dac_nil))) (dg_name 3))
      (ds_seq (ds_if (dt_B (de_op o_eq (de_call (n := 2) (fs := fs__law_draw K) (dac_own (j := 0) (dac_cons de_int dac_nil))) de_int)) (ds_asg (de_tup (da_cons de_int (da_cons de_int da_nil))) (dg_name 3)) ds_nil)
      (ds_seq (ds_if (dt_B (de_op o_eq (de_call (n := 2) (fs := fs__law_draw K) (dac_own (j := 0) (dac_cons de_int dac_nil))) de_int)) (ds_asg (de_tup (da_cons (de_neg (de_op o_ix (de_var 3) de_int)) (da_cons (de_op o_ix (de_var 3) de_int) da_nil))) (dg_name 3)) ds_nil)
      (ds_ret (de_var 3))))))⟩
abbrev s__law_sights : Stmt := topS 57
theorem sc__law_sights : FnScope ["source", "steps", "many", "found", "k", "drop"] ["source", "steps", "many"] (defScope s__law_sights) := ⟨rfl, rfl, rfl, by decide +kernel, rfl, by decide +kernel, by decide +kernel⟩
def l1__law_sights (K : PySem.W.Frag) : SW := wFor (wRng1 (wCons (wVar 2) wNil)) (wName 4) (wSq (wAsg (wCall 2 (fs__law_drop_near K) (wcOwn 0 (wcCons (wVar 1) wcNil))) (wName 5))
  (wAppend 3 (wCons (wTup (wCons (wVar 5) (wCons (wCall 2 (fs__law_flow K) (wcCons (wVar 1) (wcCons (wVar 5) wcNil))) wNil))) wNil)))
def w__law_sights (K : PySem.W.Frag) : SW := (wSq (wLstOwn 3 wNil)
  (wSq (l1__law_sights K)
  (wRetOwnG 3)))
def fs__law_sights (K : PySem.W.Frag) : FSF := fun cs q _ => ∃ (p : Addr) (c : Cont) (es : List D) (k : Int), cs = [.own p c, .dat (.tup es), .dat (.int k)] ∧ SrcC c ∧ StepsD es ∧ 0 ≤ k ∧ k ≤ 12 ∧
  ∀ (c' : Cont) (ss : List Sg), SrcC c' → (ss.length : Int) = k → (∀ s ∈ ss, SgOk s ∧ s.2.2.natAbs < 7) → q (.lst (sgs ss)) [.own p c', .dat (.tup es), .dat (.int k)]
theorem flow7 {st : List D} {t b : Int} (h : st.length ≤ 6) : (flowN st t b).natAbs < 7 := by
  have := List.length_filter_le (letP b (absI t)) st
  unfold flowN
  split <;> omega
theorem flow6 {st : List D} {t b : Int} (h : st.length ≤ 6) : (flowN st t b).natAbs < 2 ^ 180 := Nat.lt_of_lt_of_le (flow7 h) (by decide)
theorem pure__law_sights : PureG2 3 3 (fs__law_sights K) (w__law_sights K) := by
  rintro cs q e - ⟨p0, c, es, k, rfl, hc, hs, k0, k12, hq⟩
  have l6 := hs.2.1
  simp only [w__law_sights, wAsg2, wTold2, wEnumB, wListOfOwn, wRetOwnG, dcOf, wIsiT, offE, D.adr.injEq, Cont.pool.injEq, ixN31, ne_eq, List.map_cons, List.map_nil, wRaise0, wRaise1, wFrz, wEnumT, wDict0, wDict1, numD3, Nat.reduceAdd, atI0, atI1, atI2, atI3, atI4, ixN51, ixN52, ixN53, List.length_map, scal, V.int.injEq, V.str.injEq, V.bl.injEq, wSq, wNext, wBreak, wDrop, wRet, wIfS, wAsg, wPar, wLstOwn, wAppend, wSetOwn, wIxOwn, wPeek, wRetFr, wFor, wB, wNot, wAnd, wOr, wAndV, wOrV, wNotV, wChain, wNil, wCons, wCB, wTup, wLst, wNoPart, wPart, wSlT, wSeq, wRng1, wRng2, wZip, wName, wNilT, wConsT, wTupT, wYes, wNeg, wVar, wC, wOp, wcNil, wcCons, wcOwn, wCall, wCallOwn, slots, cellsOf, OwnArgs, putBack, g2I, g2IC, gLen, gAbs, gGcd, gInt1, gTupleOf, gListOf, gIx, gCatT, gCat, gEq, gNe, gIsN, gNotN, scD, seqD_t, seqD_l, seqD_f, isNonD, List.nodup_cons, List.mem_cons, List.not_mem_nil, or_false, not_false_eq_true, Nat.reduceEqDiff, L3.Keeps, ends, wipeD, List.replicate, List.cons_append, List.nil_append, List.append_nil, List.getElem?_cons_zero, List.getElem?_cons_succ, List.set_cons_zero, List.set_cons_succ, List.getD_cons_zero, List.getD_cons_succ, List.length_cons, List.length_nil, List.nodup_nil, Option.some.injEq, Cell.dat.injEq, Cell.own.injEq, Cont.lst.injEq, D.bl.injEq, D.int.injEq, D.str.injEq, D.tup.injEq, D.lst.injEq, Arg.d.injEq, List.cons.injEq, exists_and_left, exists_and_right, exists_eq_left', exists_eq_left, exists_eq_right, exists_eq_right', exists_eq, exists_eq', and_true, true_and, and_assoc, and_self, exists_const, reduceCtorEq, web_wE, web_pE, webD_inj]
  refine ⟨fun i p k h => ?_, by decide, fun p => ?_⟩
  · match i, h with
    | 0, h =>
      simp at h
      rw [← h.2]
      obtain ⟨ns, a, b, c, f, rfl, _⟩ := hc
      trivial
    | 1, h => simp at h
    | 2, h => simp at h
    | i + 3, h => simp at h
  unfold l1__law_sights wFor
  simp only [fs__law_drop_near, wAsg2, wTold2, wEnumB, wListOfOwn, wRetOwnG, dcOf, wIsiT, offE, D.adr.injEq, Cont.pool.injEq, ixN31, ne_eq, List.map_cons, List.map_nil, wRaise0, wRaise1, wFrz, wEnumT, wDict0, wDict1, numD3, Nat.reduceAdd, atI0, atI1, atI2, atI3, atI4, ixN51, ixN52, ixN53, List.length_map, scal, V.int.injEq, V.str.injEq, V.bl.injEq, wSq, wNext, wBreak, wDrop, wRet, wIfS, wAsg, wPar, wLstOwn, wAppend, wSetOwn, wIxOwn, wPeek, wRetFr, wFor, wB, wNot, wAnd, wOr, wAndV, wOrV, wNotV, wChain, wNil, wCons, wCB, wTup, wLst, wNoPart, wPart, wSlT, wSeq, wRng1, wRng2, wZip, wName, wNilT, wConsT, wTupT, wYes, wNeg, wVar, wC, wOp, wcNil, wcCons, wcOwn, wCall, wCallOwn, slots, cellsOf, OwnArgs, putBack, g2I, g2IC, gLen, gAbs, gGcd, gInt1, gTupleOf, gListOf, gIx, gCatT, gCat, gEq, gNe, gIsN, gNotN, scD, seqD_t, seqD_l, seqD_f, isNonD, List.nodup_cons, List.mem_cons, List.not_mem_nil, or_false, not_false_eq_true, Nat.reduceEqDiff, L3.Keeps, ends, wipeD, List.replicate, List.cons_append, List.nil_append, List.append_nil, List.getElem?_cons_zero, List.getElem?_cons_succ, List.set_cons_zero, List.set_cons_succ, List.getD_cons_zero, List.getD_cons_succ, List.length_cons, List.length_nil, List.nodup_nil, Option.some.injEq, Cell.dat.injEq, Cell.own.injEq, Cont.lst.injEq, D.bl.injEq, D.int.injEq, D.str.injEq, D.tup.injEq, D.lst.injEq, Arg.d.injEq, List.cons.injEq, exists_and_left, exists_and_right, exists_eq_left', exists_eq_left, exists_eq_right, exists_eq_right', exists_eq, exists_eq', and_true, true_and, and_assoc, and_self, exists_const, reduceCtorEq, web_wE, web_pE, webD_inj]
  refine ⟨by omega, by omega, fun i τ => ∃ (c : Cont) (ss : List Sg) (c4 c5 : Cell), τ = [.own p0 c, .dat (.tup es), .dat (.int k), .own p (.lst (sgs ss)), c4, c5] ∧ SrcC c ∧ ss.length = i ∧ ∀ s ∈ ss, SgOk s ∧ s.2.2.natAbs < 7, ⟨c, [], _, _, rfl, hc, rfl, fun s h => by cases h⟩, ?_, ?_⟩
  · rintro i d τ2 hi ⟨c, ss, c4, c5, rfl, hc, hl, hk⟩
    have hlt := (List.getElem?_eq_some_iff.mp hi).1
    rw [rangeD_length] at hlt
    simp only [fs__law_drop_near, fs__law_flow, wAsg2, wTold2, wEnumB, wListOfOwn, wRetOwnG, dcOf, wIsiT, offE, D.adr.injEq, Cont.pool.injEq, ixN31, ne_eq, List.map_cons, List.map_nil, wRaise0, wRaise1, wFrz, wEnumT, wDict0, wDict1, numD3, Nat.reduceAdd, atI0, atI1, atI2, atI3, atI4, ixN51, ixN52, ixN53, List.length_map, scal, V.int.injEq, V.str.injEq, V.bl.injEq, wSq, wNext, wBreak, wDrop, wRet, wIfS, wAsg, wPar, wLstOwn, wAppend, wSetOwn, wIxOwn, wPeek, wRetFr, wFor, wB, wNot, wAnd, wOr, wAndV, wOrV, wNotV, wChain, wNil, wCons, wCB, wTup, wLst, wNoPart, wPart, wSlT, wSeq, wRng1, wRng2, wZip, wName, wNilT, wConsT, wTupT, wYes, wNeg, wVar, wC, wOp, wcNil, wcCons, wcOwn, wCall, wCallOwn, slots, cellsOf, OwnArgs, putBack, g2I, g2IC, gLen, gAbs, gGcd, gInt1, gTupleOf, gListOf, gIx, gCatT, gCat, gEq, gNe, gIsN, gNotN, scD, seqD_t, seqD_l, seqD_f, isNonD, List.nodup_cons, List.mem_cons, List.not_mem_nil, or_false, not_false_eq_true, Nat.reduceEqDiff, L3.Keeps, ends, wipeD, List.replicate, List.cons_append, List.nil_append, List.append_nil, List.getElem?_cons_zero, List.getElem?_cons_succ, List.set_cons_zero, List.set_cons_succ, List.getD_cons_zero, List.getD_cons_succ, List.length_cons, List.length_nil, List.nodup_nil, Option.some.injEq, Cell.dat.injEq, Cell.own.injEq, Cont.lst.injEq, D.bl.injEq, D.int.injEq, D.str.injEq, D.tup.injEq, D.lst.injEq, Arg.d.injEq, List.cons.injEq, exists_and_left, exists_and_right, exists_eq_left', exists_eq_left, exists_eq_right, exists_eq_right', exists_eq, exists_eq', and_true, true_and, and_assoc, and_self, exists_const, reduceCtorEq, web_wE, web_pE, webD_inj]
    refine ⟨hc, hs, fun c1 t b hc1 hd => ?_⟩
    refine ⟨l6, fun d hd => th_smP (hs.2.2.1 d hd), by decide, by omega, ss ++ [(t, b, flowN es t b)], by simp [sgs], hc1, by rw [List.length_append, hl]; rfl, fun s hs2 => ?_⟩
    have p1 : (2 : Nat) ^ 150 < 2 ^ 180 := by decide
    rcases List.mem_append.mp hs2 with h | h
    · exact hk s h
    · rw [List.mem_singleton.mp h]
      exact ⟨⟨hd.1, Nat.lt_trans hd.2.1 p1, Nat.lt_trans hd.2.2 p1, flow6 l6⟩, flow7 l6⟩
  · rintro τ2 ⟨c, ss, c4, c5, rfl, hc, hl, hk⟩
    rw [rangeD_length] at hl
    simp only [wAsg2, wTold2, wEnumB, wListOfOwn, wRetOwnG, dcOf, wIsiT, offE, D.adr.injEq, Cont.pool.injEq, ixN31, ne_eq, List.map_cons, List.map_nil, wRaise0, wRaise1, wFrz, wEnumT, wDict0, wDict1, numD3, Nat.reduceAdd, atI0, atI1, atI2, atI3, atI4, ixN51, ixN52, ixN53, List.length_map, scal, V.int.injEq, V.str.injEq, V.bl.injEq, wSq, wNext, wBreak, wDrop, wRet, wIfS, wAsg, wPar, wLstOwn, wAppend, wSetOwn, wIxOwn, wPeek, wRetFr, wFor, wB, wNot, wAnd, wOr, wAndV, wOrV, wNotV, wChain, wNil, wCons, wCB, wTup, wLst, wNoPart, wPart, wSlT, wSeq, wRng1, wRng2, wZip, wName, wNilT, wConsT, wTupT, wYes, wNeg, wVar, wC, wOp, wcNil, wcCons, wcOwn, wCall, wCallOwn, slots, cellsOf, OwnArgs, putBack, g2I, g2IC, gLen, gAbs, gGcd, gInt1, gTupleOf, gListOf, gIx, gCatT, gCat, gEq, gNe, gIsN, gNotN, scD, seqD_t, seqD_l, seqD_f, isNonD, List.nodup_cons, List.mem_cons, List.not_mem_nil, or_false, not_false_eq_true, Nat.reduceEqDiff, L3.Keeps, ends, wipeD, List.replicate, List.cons_append, List.nil_append, List.append_nil, List.getElem?_cons_zero, List.getElem?_cons_succ, List.set_cons_zero, List.set_cons_succ, List.getD_cons_zero, List.getD_cons_succ, List.length_cons, List.length_nil, List.nodup_nil, Option.some.injEq, Cell.dat.injEq, Cell.own.injEq, Cont.lst.injEq, D.bl.injEq, D.int.injEq, D.str.injEq, D.tup.injEq, D.lst.injEq, Arg.d.injEq, List.cons.injEq, exists_and_left, exists_and_right, exists_eq_left', exists_eq_left, exists_eq_right, exists_eq_right', exists_eq, exists_eq', and_true, true_and, and_assoc, and_self, exists_const, reduceCtorEq, web_wE, web_pE, webD_inj]
    exact hq c ss hc (by omega) hk
theorem ok__law_sights (T : Txt K mg) : FnOk P w K mg base (L2.CX P w) 5 T.f__law_sights T.fd__law_sights ["source", "steps", "many"] (spFr K 3 (fs__law_sights K)) := by
  refine def_okG2 T.F__law_sights sc__law_sights (wb := w__law_sights K) pure__law_sights ?_
  intro cdv A outer s H E hr tk
  exact ⟨_, (pss_cons (ps_set (i := 3) sc__law_sights.nd rfl (by first | exact Or.inl rfl | exact Or.inr rfl) (pe_lst pa_nil))
      (pss_cons (ps_for (passes_of rfl) rfl (pi_range1 (by rfl) T.z_range (pa_cons (pv 2) pa_nil)) (pg_name (i := 4) sc__law_sights.nd rfl (by first | exact Or.inl rfl | exact Or.inr rfl))
        (pss_cons (ps_set (i := 5) sc__law_sights.nd rfl (by first | exact Or.inl rfl | exact Or.inr rfl) (pe_callS (ok__law_drop_near T) (hr.mono (by decide)) rfl T.g__law_drop_near T.k__law_drop_near T.b__law_drop_near (fun σ => passAt tk σ) (pa_cons (pv 0) (pa_cons (pv 1) pa_nil))))
      (pss_one (ps_expr (pe_bm PySem.F.plainAttrs_list PySem.F.slot_list_append PySem.F.type_list_append mt_append (pv 3) (pa_cons (pe_tup (pa_cons (pv 5) (pa_cons (pe_callS (ok__law_flow T) (hr.mono (by decide)) rfl T.g__law_flow T.k__law_flow T.b__law_flow (fun σ => passAt tk σ) (pa_cons (pv 1) (pa_cons (pv 5) pa_nil))) pa_nil))) pa_nil))))))
      (pss_one (ps_ret (pv 3))))),
    (ds_seq (ds_lstOwn (i := 3) da_nil)
      (ds_seq (ds_for (wI := (wRng1 (wCons (wVar 2) wNil))) (wg := (wName 4)) (wb := (wSq (wAsg (wCall 2 (fs__law_drop_near K) (wcOwn 0 (wcCons (wVar 1) wcNil))) (wName 5))
  (wAppend 3 (wCons (wTup (wCons (wVar 5) (wCons (wCall 2 (fs__law_flow K) (wcCons (wVar 1) (wcCons (wVar 5) wcNil))) wNil))) wNil)))) (di_rng1 (da_cons (de_var 2) da_nil)) (dg_name 4) (ds_seq (ds_asg (de_call (n := 2) (fs := fs__law_drop_near K) (dac_own (j := 0) (dac_cons (de_var 1) dac_nil))) (dg_name 5))
      (ds_append (i := 3) (da_cons (de_tup (da_cons (de_var 5) (da_cons (de_call (n := 2) (fs := fs__law_flow K) (dac_cons (de_var 1) (dac_cons (de_var 5) dac_nil))) da_nil))) da_nil))))
      (ds_retOwnG (i := 3))))⟩
abbrev s__law_things : Stmt := topS 60
theorem sc__law_things : FnScope ["source", "many", "one", "other", "last", "found", "k"] ["source", "many"] (defScope s__law_things) := ⟨rfl, rfl, rfl, by decide +kernel, rfl, by decide +kernel, by decide +kernel⟩
def c1__law_things (K : PySem.W.Frag) (Z : CT) : EW := wLc (wRng1 (wCons (wVar 1) wNil)) (wName 6) wYes (wTup (wCons (wVar 6) wNil)) [6]
def w__law_things (K : PySem.W.Frag) (Z : CT) : SW := (wSq (wPar 2 3 (wCons (wCall 2 (fs__law_draw K) (wcOwn 0 (wcCons (wVar 1) wcNil))) (wCons (wCall 2 (fs__law_draw K) (wcOwn 0 (wcCons (wVar 1) wcNil))) wNil)))
  (wSq (wAsg (wCall 2 (fs__law_draw K) (wcOwn 0 (wcCons (wVar 1) wcNil))) (wName 4))
  (wSq (wAsg (c1__law_things K Z) (wName 5))
  (wSq (wAsg (wOp gCat (wVar 5) (wLst (wCons (wTup (wCons (wVar 2) (wCons (wVar 3) wNil))) (wCons (wTup (wCons (wVar 3) (wCons (wVar 2) wNil))) (wCons (wTup (wCons (wVar 2) (wCons (wVar 4) wNil))) (wCons (wTup (wCons (wVar 4) (wCons (wVar 2) wNil))) (wCons (wTup (wCons (wVar 2) (wCons (wVar 2) wNil))) (wCons (wTup (wCons (wVar 2) (wCons (wVar 3) (wCons (wVar 4) wNil)))) (wCons (wTup wNil) (wCons (wLst (wCons (wVar 2) wNil)) (wCons (wLst (wCons (wVar 2) (wCons (wVar 3) wNil))) wNil))))))))))) (wName 5))
  (wSq (wAsg (wOp gCat (wVar 5) (wLst (wCons (wTup (wCons (wVar 1) wNil)) (wCons (wTup (wCons (wVar 2) (wCons (wVar 1) wNil))) (wCons (wTup (wCons (wNeg (wC (.int 1))) wNil)) (wCons (wTup (wCons (wVar 2) (wCons (wNeg (wC (.int 1))) wNil))) (wCons (wTup (wCons (wC (.bl true)) wNil)) (wCons (wTup (wCons (wVar 2) (wCons (wC (.bl false)) wNil))) (wCons (wTup (wCons (wVar 2) (wCons (wC .non) wNil))) (wCons (wVar 2) (wCons (wTup (wCons (wTup (wCons (wVar 2) wNil)) (wCons (wVar 3) wNil))) wNil))))))))))) (wName 5))
  (wRet (wOp gCat (wVar 5) (wLst (wCons (wCall 1 (fs__law_strange K Z) (wcOwn 0 wcNil)) (wCons (wTup (wCons (wVar 2) (wCons (wCall 1 (fs__law_strange K Z) (wcOwn 0 wcNil)) wNil))) (wCons (wTup (wCons (wCall 1 (fs__law_strange K Z) (wcOwn 0 wcNil)) wNil)) wNil)))))))))))
def fs__law_things (K : PySem.W.Frag) (Z : CT) : FS := fun cs q _ => ∃ (p : Addr) (c : Cont) (n : Int), cs = [.own p c, .dat (.int n)] ∧ SrcC c ∧ 1 ≤ n ∧ n ≤ 12 ∧ OkD K (.oth (.ref Z.C_Web)) ∧
  ∀ (c' : Cont) (ts : List D), SrcC c' → 1 ≤ ts.length → ts.length ≤ 100 → (∀ x ∈ ts, OkD K x) → q (.lst ts) [.own p c', .dat (.int n)]
theorem c1__law_things_ok {Z : CT} {n : Int} {c0 c2 c3 c4 c5 c6 : Cell} {q : D → List Cell → Prop} {e : Xn → List Cell → Prop} (n1 : 1 ≤ n) (n12 : n ≤ 12)
    (hq : ∀ us : List D, (∀ x ∈ us, OkD K x) → us.length ≤ 12 → q (.lst us) [c0, .dat (.int n), c2, c3, c4, c5, .any]) : c1__law_things K Z [c0, .dat (.int n), c2, c3, c4, c5, c6] q e := by
  unfold c1__law_things wLc
  simp only [wAsg2, wTold2, wEnumB, wListOfOwn, wRetOwnG, dcOf, wIsiT, offE, D.adr.injEq, Cont.pool.injEq, ixN31, ne_eq, List.map_cons, List.map_nil, wRaise0, wRaise1, wFrz, wEnumT, wDict0, wDict1, numD3, Nat.reduceAdd, atI0, atI1, atI2, atI3, atI4, ixN51, ixN52, ixN53, List.length_map, scal, V.int.injEq, V.str.injEq, V.bl.injEq, wSq, wNext, wBreak, wDrop, wRet, wIfS, wAsg, wPar, wLstOwn, wAppend, wSetOwn, wIxOwn, wPeek, wRetFr, wFor, wB, wNot, wAnd, wOr, wAndV, wOrV, wNotV, wChain, wNil, wCons, wCB, wTup, wLst, wNoPart, wPart, wSlT, wSeq, wRng1, wRng2, wZip, wName, wNilT, wConsT, wTupT, wYes, wNeg, wVar, wC, wOp, wcNil, wcCons, wcOwn, wCall, wCallOwn, slots, cellsOf, OwnArgs, putBack, g2I, g2IC, gLen, gAbs, gGcd, gInt1, gTupleOf, gListOf, gIx, gCatT, gCat, gEq, gNe, gIsN, gNotN, scD, seqD_t, seqD_l, seqD_f, isNonD, List.nodup_cons, List.mem_cons, List.not_mem_nil, or_false, not_false_eq_true, Nat.reduceEqDiff, L3.Keeps, ends, wipeD, List.replicate, List.cons_append, List.nil_append, List.append_nil, List.getElem?_cons_zero, List.getElem?_cons_succ, List.set_cons_zero, List.set_cons_succ, List.getD_cons_zero, List.getD_cons_succ, List.length_cons, List.length_nil, List.nodup_nil, Option.some.injEq, Cell.dat.injEq, Cell.own.injEq, Cont.lst.injEq, D.bl.injEq, D.int.injEq, D.str.injEq, D.tup.injEq, D.lst.injEq, Arg.d.injEq, List.cons.injEq, exists_and_left, exists_and_right, exists_eq_left', exists_eq_left, exists_eq_right, exists_eq_right', exists_eq, exists_eq', and_true, true_and, and_assoc, and_self, exists_const, reduceCtorEq, web_wE, web_pE, webD_inj]
  refine ⟨by omega, by omega, by rw [rangeD_length]; omega, fun i acc τ => τ = [c0, .dat (.int n), c2, c3, c4, c5, .any] ∧ (∀ x ∈ acc, OkD K x) ∧ acc.length = i, ⟨rfl, fun x h => (by simp at h), rfl⟩, ?_, ?_⟩
  · rintro i d acc τ2 hi ⟨rfl, ha, hl⟩ -
    have hlt := (List.getElem?_eq_some_iff.mp hi).1
    rw [rangeD_length] at hlt
    rw [rangeD_get (by omega)] at hi
    cases hi
    simp only [wAsg2, wTold2, wEnumB, wListOfOwn, wRetOwnG, dcOf, wIsiT, offE, D.adr.injEq, Cont.pool.injEq, ixN31, ne_eq, List.map_cons, List.map_nil, wRaise0, wRaise1, wFrz, wEnumT, wDict0, wDict1, numD3, Nat.reduceAdd, atI0, atI1, atI2, atI3, atI4, ixN51, ixN52, ixN53, List.length_map, scal, V.int.injEq, V.str.injEq, V.bl.injEq, wSq, wNext, wBreak, wDrop, wRet, wIfS, wAsg, wPar, wLstOwn, wAppend, wSetOwn, wIxOwn, wPeek, wRetFr, wFor, wB, wNot, wAnd, wOr, wAndV, wOrV, wNotV, wChain, wNil, wCons, wCB, wTup, wLst, wNoPart, wPart, wSlT, wSeq, wRng1, wRng2, wZip, wName, wNilT, wConsT, wTupT, wYes, wNeg, wVar, wC, wOp, wcNil, wcCons, wcOwn, wCall, wCallOwn, slots, cellsOf, OwnArgs, putBack, g2I, g2IC, gLen, gAbs, gGcd, gInt1, gTupleOf, gListOf, gIx, gCatT, gCat, gEq, gNe, gIsN, gNotN, scD, seqD_t, seqD_l, seqD_f, isNonD, List.nodup_cons, List.mem_cons, List.not_mem_nil, or_false, not_false_eq_true, Nat.reduceEqDiff, L3.Keeps, ends, wipeD, List.replicate, List.cons_append, List.nil_append, List.append_nil, List.getElem?_cons_zero, List.getElem?_cons_succ, List.set_cons_zero, List.set_cons_succ, List.getD_cons_zero, List.getD_cons_succ, List.length_cons, List.length_nil, List.nodup_nil, Option.some.injEq, Cell.dat.injEq, Cell.own.injEq, Cont.lst.injEq, D.bl.injEq, D.int.injEq, D.str.injEq, D.tup.injEq, D.lst.injEq, Arg.d.injEq, List.cons.injEq, exists_and_left, exists_and_right, exists_eq_left', exists_eq_left, exists_eq_right, exists_eq_right', exists_eq, exists_eq', and_true, true_and, and_assoc, and_self, exists_const, reduceCtorEq, web_wE, web_pE, webD_inj]
    refine ⟨fun _ => ⟨by decide, fun x hx => ?_, by rw [List.length_append, hl]; rfl⟩, fun z => z.elim⟩
    rcases List.mem_append.mp hx with h | h
    · exact ha x h
    · rw [List.mem_singleton.mp h]
      simp [OkD, OkDs]
  · rintro acc τ2 ⟨h1, ha, hl⟩ -
    rw [rangeD_length] at hl
    rw [h1]
    exact hq acc ha (by omega)
theorem pure__law_things {Z : CT} : PureD 2 5 (fs__law_things K Z) (w__law_things K Z) := by
  rintro cs q e - ⟨p0, c, n, rfl, hc, n1, n12, hw, hq⟩
  simp only [w__law_things, fs__law_draw, wAsg2, wTold2, wEnumB, wListOfOwn, wRetOwnG, dcOf, wIsiT, offE, D.adr.injEq, Cont.pool.injEq, ixN31, ne_eq, List.map_cons, List.map_nil, wRaise0, wRaise1, wFrz, wEnumT, wDict0, wDict1, numD3, Nat.reduceAdd, atI0, atI1, atI2, atI3, atI4, ixN51, ixN52, ixN53, List.length_map, scal, V.int.injEq, V.str.injEq, V.bl.injEq, wSq, wNext, wBreak, wDrop, wRet, wIfS, wAsg, wPar, wLstOwn, wAppend, wSetOwn, wIxOwn, wPeek, wRetFr, wFor, wB, wNot, wAnd, wOr, wAndV, wOrV, wNotV, wChain, wNil, wCons, wCB, wTup, wLst, wNoPart, wPart, wSlT, wSeq, wRng1, wRng2, wZip, wName, wNilT, wConsT, wTupT, wYes, wNeg, wVar, wC, wOp, wcNil, wcCons, wcOwn, wCall, wCallOwn, slots, cellsOf, OwnArgs, putBack, g2I, g2IC, gLen, gAbs, gGcd, gInt1, gTupleOf, gListOf, gIx, gCatT, gCat, gEq, gNe, gIsN, gNotN, scD, seqD_t, seqD_l, seqD_f, isNonD, List.nodup_cons, List.mem_cons, List.not_mem_nil, or_false, not_false_eq_true, Nat.reduceEqDiff, L3.Keeps, ends, wipeD, List.replicate, List.cons_append, List.nil_append, List.append_nil, List.getElem?_cons_zero, List.getElem?_cons_succ, List.set_cons_zero, List.set_cons_succ, List.getD_cons_zero, List.getD_cons_succ, List.length_cons, List.length_nil, List.nodup_nil, Option.some.injEq, Cell.dat.injEq, Cell.own.injEq, Cont.lst.injEq, D.bl.injEq, D.int.injEq, D.str.injEq, D.tup.injEq, D.lst.injEq, Arg.d.injEq, List.cons.injEq, exists_and_left, exists_and_right, exists_eq_left', exists_eq_left, exists_eq_right, exists_eq_right', exists_eq, exists_eq', and_true, true_and, and_assoc, and_self, exists_const, reduceCtorEq, web_wE, web_pE, webD_inj]
  refine ⟨hc, by omega, by omega, fun c1 one hc1 a0 a1 => ⟨hc1, by omega, by omega, fun c2 oth hc2 b0 b1 => ⟨hc2, by omega, by omega, fun c3 las hc3 _ _ => c1__law_things_ok n1 n12 fun us hu hl => ?_⟩⟩⟩
  simp only [fs__law_strange, wAsg2, wTold2, wEnumB, wListOfOwn, wRetOwnG, dcOf, wIsiT, offE, D.adr.injEq, Cont.pool.injEq, ixN31, ne_eq, List.map_cons, List.map_nil, wRaise0, wRaise1, wFrz, wEnumT, wDict0, wDict1, numD3, Nat.reduceAdd, atI0, atI1, atI2, atI3, atI4, ixN51, ixN52, ixN53, List.length_map, scal, V.int.injEq, V.str.injEq, V.bl.injEq, wSq, wNext, wBreak, wDrop, wRet, wIfS, wAsg, wPar, wLstOwn, wAppend, wSetOwn, wIxOwn, wPeek, wRetFr, wFor, wB, wNot, wAnd, wOr, wAndV, wOrV, wNotV, wChain, wNil, wCons, wCB, wTup, wLst, wNoPart, wPart, wSlT, wSeq, wRng1, wRng2, wZip, wName, wNilT, wConsT, wTupT, wYes, wNeg, wVar, wC, wOp, wcNil, wcCons, wcOwn, wCall, wCallOwn, slots, cellsOf, OwnArgs, putBack, g2I, g2IC, gLen, gAbs, gGcd, gInt1, gTupleOf, gListOf, gIx, gCatT, gCat, gEq, gNe, gIsN, gNotN, scD, seqD_t, seqD_l, seqD_f, isNonD, List.nodup_cons, List.mem_cons, List.not_mem_nil, or_false, not_false_eq_true, Nat.reduceEqDiff, L3.Keeps, ends, wipeD, List.replicate, List.cons_append, List.nil_append, List.append_nil, List.getElem?_cons_zero, List.getElem?_cons_succ, List.set_cons_zero, List.set_cons_succ, List.getD_cons_zero, List.getD_cons_succ, List.length_cons, List.length_nil, List.nodup_nil, Option.some.injEq, Cell.dat.injEq, Cell.own.injEq, Cont.lst.injEq, D.bl.injEq, D.int.injEq, D.str.injEq, D.tup.injEq, D.lst.injEq, Arg.d.injEq, List.cons.injEq, exists_and_left, exists_and_right, exists_eq_left', exists_eq_left, exists_eq_right, exists_eq_right', exists_eq, exists_eq', and_true, true_and, and_assoc, and_self, exists_const, reduceCtorEq, web_wE, web_pE, webD_inj]
  refine ⟨by decide, by decide, by decide, by decide, by decide, by decide, by decide, by decide, by decide, by decide, by omega, by decide, by decide, by decide, by decide, by decide, by decide, by decide, by decide, by decide, by decide, by simp; omega, hc3, hw, fun c4 x hc4 hx => ⟨hc4, hw, fun c5 y hc5 hy => ⟨by decide, hc5, hw, fun c6 z hc6 hz => ⟨by decide, by decide, by simp; omega, hq c6 _ hc6 (by simp) (by simp; omega) fun w hw2 => ?_⟩⟩⟩⟩
  simp only [List.mem_append, List.mem_cons, List.not_mem_nil, or_false] at hw2
  rcases hw2 with ((h | h) | h) | h
  · exact hu w h
  · rcases h with rfl | rfl | rfl | rfl | rfl | rfl | rfl | rfl | rfl <;> simp [OkD, OkDs]
  · rcases h with rfl | rfl | rfl | rfl | rfl | rfl | rfl | rfl | rfl <;> simp [OkD, OkDs]
  · rcases h with rfl | rfl | rfl
    · exact hx
    · simp [OkD, OkDs, hy]
    · simp [OkD, OkDs, hz]
theorem ok__law_things (T : Txt K mg) : FnOk P w K mg base (L2.CX P w) 9 T.f__law_things T.fd__law_things ["source", "many"] (spOf K 2 (fs__law_things K T.Z)) := by
  refine def_ok T.F__law_things sc__law_things (wb := w__law_things K T.Z) pure__law_things ?_
  intro cdv A outer s H E hr tk
  exact ⟨_, (pss_cons (ps_par (i := 2) (j := 3) (by rfl) sc__law_things.nd rfl rfl (by decide) rfl rfl (pa_cons (pe_callS (ok__law_draw T) (hr.mono (by decide)) rfl T.g__law_draw T.k__law_draw T.b__law_draw (fun σ => passAt tk σ) (pa_cons (pv 0) (pa_cons (pv 1) pa_nil))) (pa_cons (pe_callS (ok__law_draw T) (hr.mono (by decide)) rfl T.g__law_draw T.k__law_draw T.b__law_draw (fun σ => passAt tk σ) (pa_cons (pv 0) (pa_cons (pv 1) pa_nil))) pa_nil)) (by rfl))
      (pss_cons (ps_set (i := 4) sc__law_things.nd rfl (by first | exact Or.inl rfl | exact Or.inr rfl) (pe_callS (ok__law_draw T) (hr.mono (by decide)) rfl T.g__law_draw T.k__law_draw T.b__law_draw (fun σ => passAt tk σ) (pa_cons (pv 0) (pa_cons (pv 1) pa_nil))))
      (pss_cons (ps_setLc (i := 5) (own := [("k", 6)]) (g := (gName 6)) (tt := tYes) (te := (tTup (tCons (tVar 6) tNil))) rfl sc__law_things.nd rfl rfl (sw_true rfl rfl (by rfl) (by rfl)) (pi_range1 (by rfl) T.z_range (pa_cons (pv 1) pa_nil)) (blkOk_by (N := ["source", "many", "one", "other", "last", "found", "k"]) (sc := defScope s__law_things) (by decide +kernel)) (fun _ _ _ _ _ => (pg_name (i := 6) sc__law_things.nd rfl (by first | exact Or.inl rfl | exact Or.inr rfl))) (fun _ _ _ _ _ => pts_nil) (fun _ _ _ _ _ => (pe_tup (pa_cons (pv 6) pa_nil))))
      (pss_cons (ps_set (i := 5) sc__law_things.nd rfl (by first | exact Or.inl rfl | exact Or.inr rfl) (pe_op op_cat (pv 5) (pe_lst (pa_cons (pe_tup (pa_cons (pv 2) (pa_cons (pv 3) pa_nil))) (pa_cons (pe_tup (pa_cons (pv 3) (pa_cons (pv 2) pa_nil))) (pa_cons (pe_tup (pa_cons (pv 2) (pa_cons (pv 4) pa_nil))) (pa_cons (pe_tup (pa_cons (pv 4) (pa_cons (pv 2) pa_nil))) (pa_cons (pe_tup (pa_cons (pv 2) (pa_cons (pv 2) pa_nil))) (pa_cons (pe_tup (pa_cons (pv 2) (pa_cons (pv 3) (pa_cons (pv 4) pa_nil)))) (pa_cons (pe_tup pa_nil) (pa_cons (pe_lst (pa_cons (pv 2) pa_nil)) (pa_cons (pe_lst (pa_cons (pv 2) (pa_cons (pv 3) pa_nil))) pa_nil))))))))))))
      (pss_cons (ps_set (i := 5) sc__law_things.nd rfl (by first | exact Or.inl rfl | exact Or.inr rfl) (pe_op op_cat (pv 5) (pe_lst (pa_cons (pe_tup (pa_cons (pv 1) pa_nil)) (pa_cons (pe_tup (pa_cons (pv 2) (pa_cons (pv 1) pa_nil))) (pa_cons (pe_tup (pa_cons (pe_un un_neg pe_int) pa_nil)) (pa_cons (pe_tup (pa_cons (pv 2) (pa_cons (pe_un un_neg pe_int) pa_nil))) (pa_cons (pe_tup (pa_cons pe_bl pa_nil)) (pa_cons (pe_tup (pa_cons (pv 2) (pa_cons pe_bl pa_nil))) (pa_cons (pe_tup (pa_cons (pv 2) (pa_cons pe_non pa_nil))) (pa_cons (pv 2) (pa_cons (pe_tup (pa_cons (pe_tup (pa_cons (pv 2) pa_nil)) (pa_cons (pv 3) pa_nil))) pa_nil))))))))))))
      (pss_one (ps_ret (pe_op op_cat (pv 5) (pe_lst (pa_cons (pe_callS (ok__law_strange T) (hr.mono (by decide)) rfl T.g__law_strange T.k__law_strange T.b__law_strange (fun σ => passAt tk σ) (pa_cons (pv 0) pa_nil)) (pa_cons (pe_tup (pa_cons (pv 2) (pa_cons (pe_callS (ok__law_strange T) (hr.mono (by decide)) rfl T.g__law_strange T.k__law_strange T.b__law_strange (fun σ => passAt tk σ) (pa_cons (pv 0) pa_nil)) pa_nil))) (pa_cons (pe_tup (pa_cons (pe_callS (ok__law_strange T) (hr.mono (by decide)) rfl T.g__law_strange T.k__law_strange T.b__law_strange (fun σ => passAt tk σ) (pa_cons (pv 0) pa_nil)) pa_nil)) pa_nil)))))))))))),
    (ds_seq (ds_par (i := 2) (j := 3) (da_cons (de_call (n := 2) (fs := fs__law_draw K) (dac_own (j := 0) (dac_cons (de_var 1) dac_nil))) (da_cons (de_call (n := 2) (fs := fs__law_draw K) (dac_own (j := 0) (dac_cons (de_var 1) dac_nil))) da_nil)))
      (ds_seq (ds_asg (de_call (n := 2) (fs := fs__law_draw K) (dac_own (j := 0) (dac_cons (de_var 1) dac_nil))) (dg_name 4))
      (ds_seq (ds_asg (de_lc (vs := [6]) (wI := (wRng1 (wCons (wVar 1) wNil))) (wg := (wName 6)) (wt := wYes) (we := (wTup (wCons (wVar 6) wNil))) (di_rng1 (da_cons (de_var 1) da_nil)) (dg_name 6) dt_yes (de_tup (da_cons (de_var 6) da_nil)) (by decide)) (dg_name 5))
      (ds_seq (ds_asg (de_op o_cat (de_var 5) (de_lst (da_cons (de_tup (da_cons (de_var 2) (da_cons (de_var 3) da_nil))) (da_cons (de_tup (da_cons (de_var 3) (da_cons (de_var 2) da_nil))) (da_cons (de_tup (da_cons (de_var 2) (da_cons (de_var 4) da_nil))) (da_cons (de_tup (da_cons (de_var 4) (da_cons (de_var 2) da_nil))) (da_cons (de_tup (da_cons (de_var 2) (da_cons (de_var 2) da_nil))) (da_cons (de_tup (da_cons (de_var 2) (da_cons (de_var 3) (da_cons (de_var 4) da_nil)))) (da_cons (de_tup da_nil) (da_cons (de_lst (da_cons (de_var 2) da_nil)) (da_cons (de_lst (da_cons (de_var 2) (da_cons (de_var 3) da_nil))) da_nil))))))))))) (dg_name 5))
      (ds_seq (ds_asg (de_op o_cat (de_var 5) (de_lst (da_cons (de_tup (da_cons (de_var 1) da_nil)) (da_cons (de_tup (da_cons (de_var 2) (da_cons (de_var 1) da_nil))) (da_cons (de_tup (da_cons (de_neg de_int) da_nil)) (da_cons (de_tup (da_cons (de_var 2) (da_cons (de_neg de_int) da_nil))) (da_cons (de_tup (da_cons de_bl da_nil)) (da_cons (de_tup (da_cons (de_var 2) (da_cons de_bl da_nil))) (da_cons (de_tup (da_cons (de_var 2) (da_cons de_non da_nil))) (da_cons (de_var 2) (da_cons (de_tup (da_cons (de_tup (da_cons (de_var 2) da_nil)) (da_cons (de_var 3) da_nil))) da_nil))))))))))) (dg_name 5))
      (ds_ret (de_op o_cat (de_var 5) (de_lst (da_cons (de_call (n := 1) (fs := fs__law_strange K T.Z) (dac_own (j := 0) dac_nil)) (da_cons (de_tup (da_cons (de_var 2) (da_cons (de_call (n := 1) (fs := fs__law_strange K T.Z) (dac_own (j := 0) dac_nil)) da_nil))) (da_cons (de_tup (da_cons (de_call (n := 1) (fs := fs__law_strange K T.Z) (dac_own (j := 0) dac_nil)) da_nil)) da_nil)))))))))))⟩
abbrev s__law_sight_alone : Stmt := topS 53
theorem sc__law_sight_alone : FnScope ["sight", "many"] ["sight", "many"] (defScope s__law_sight_alone) := ⟨rfl, rfl, rfl, by decide +kernel, rfl, by decide +kernel, by decide +kernel⟩
def w__law_sight_alone (K : PySem.W.Frag) : SW := (wSq (wIfS (wB (wOp gGtI (wCB gAbs (wCons (wOp gIx (wVar 0) (wC (.int 1))) wNil)) (wVar 1))) (wRet (wC (.bl false))) wNext)
  (wRet (wOrV (wOp gEq (wOp gIx (wVar 0) (wC (.int 1))) (wC (.int 0))) (wOrV (wAndV (wOp gGtI (wOp gIx (wVar 0) (wC (.int 1))) (wC (.int 0))) (wOp gGtI (wOp gIx (wOp gIx (wVar 0) (wC (.int 0))) (wC (.int 0))) (wC (.int 0)))) (wAndV (wOp gLtI (wOp gIx (wVar 0) (wC (.int 1))) (wC (.int 0))) (wOp gLtI (wOp gIx (wOp gIx (wVar 0) (wC (.int 0))) (wC (.int 0))) (wC (.int 0))))))))
def fs__law_sight_alone (K : PySem.W.Frag) : FS := fun cs q _ => ∃ (s : Sg) (m : Int), cs = [.dat (sgT s), .dat (.int m)] ∧ ∀ b : Bool, (b = true ↔ ¬ barP m s) → q (.bl b) cs
theorem bar_not {m t b r : Int} : ¬ barP m (t, b, r) ↔ (¬ m < ab r ∧ (r = 0 ∨ (0 < r ∧ 0 < t) ∨ (r < 0 ∧ t < 0))) := by
  have e0 : barP m (t, b, r) ↔ (m < ab r ∨ t * r < 0 ∨ (t = 0 ∧ r ≠ 0)) := Iff.rfl
  rw [e0]
  have sg : t * r < 0 ↔ (t < 0 ∧ 0 < r) ∨ (0 < t ∧ r < 0) := by
    constructor
    · intro h
      rcases Int.lt_trichotomy t 0 with h1 | h1 | h1
      · rcases Int.lt_or_le 0 r with h2 | h2
        · exact .inl ⟨h1, h2⟩
        · have := Int.mul_nonneg (show 0 ≤ -t by omega) (show 0 ≤ -r by omega)
          rw [Int.neg_mul_neg] at this
          omega
      · rw [h1, Int.zero_mul] at h
        omega
      · rcases Int.lt_or_le r 0 with h2 | h2
        · exact .inr ⟨h1, h2⟩
        · have := Int.mul_nonneg (show 0 ≤ t by omega) h2
          omega
    · rintro (⟨h1, h2⟩ | ⟨h1, h2⟩)
      · have := Int.mul_pos (show 0 < -t by omega) h2
        rw [Int.neg_mul] at this
        omega
      · have := Int.mul_pos h1 (show 0 < -r by omega)
        rw [Int.mul_neg] at this
        omega
  rw [sg]
  omega
theorem pure__law_sight_alone : PureD 2 0 (fs__law_sight_alone K) (w__law_sight_alone K) := by
  rintro cs q e - ⟨⟨t, b, r⟩, m, rfl, hq⟩
  have ea : (if r < 0 then -r else r) = ab r := rfl
  simp only [w__law_sight_alone, seqD_t, atI0, atI1, ea, wAsg2, wTold2, wEnumB, wListOfOwn, wRetOwnG, dcOf, wIsiT, offE, D.adr.injEq, Cont.pool.injEq, ixN31, ne_eq, List.map_cons, List.map_nil, wRaise0, wRaise1, wFrz, wEnumT, wDict0, wDict1, numD3, Nat.reduceAdd, atI0, atI1, atI2, atI3, atI4, ixN51, ixN52, ixN53, List.length_map, scal, V.int.injEq, V.str.injEq, V.bl.injEq, wSq, wNext, wBreak, wDrop, wRet, wIfS, wAsg, wPar, wLstOwn, wAppend, wSetOwn, wIxOwn, wPeek, wRetFr, wFor, wB, wNot, wAnd, wOr, wAndV, wOrV, wNotV, wChain, wNil, wCons, wCB, wTup, wLst, wNoPart, wPart, wSlT, wSeq, wRng1, wRng2, wZip, wName, wNilT, wConsT, wTupT, wYes, wNeg, wVar, wC, wOp, wcNil, wcCons, wcOwn, wCall, wCallOwn, slots, cellsOf, OwnArgs, putBack, g2I, g2IC, gLen, gAbs, gGcd, gInt1, gTupleOf, gListOf, gIx, gCatT, gCat, gEq, gNe, gIsN, gNotN, scD, seqD_t, seqD_l, seqD_f, isNonD, List.nodup_cons, List.mem_cons, List.not_mem_nil, or_false, not_false_eq_true, Nat.reduceEqDiff, L3.Keeps, ends, wipeD, List.replicate, List.cons_append, List.nil_append, List.append_nil, List.getElem?_cons_zero, List.getElem?_cons_succ, List.set_cons_zero, List.set_cons_succ, List.getD_cons_zero, List.getD_cons_succ, List.length_cons, List.length_nil, List.nodup_nil, Option.some.injEq, Cell.dat.injEq, Cell.own.injEq, Cont.lst.injEq, D.bl.injEq, D.int.injEq, D.str.injEq, D.tup.injEq, D.lst.injEq, Arg.d.injEq, List.cons.injEq, exists_and_left, exists_and_right, exists_eq_left', exists_eq_left, exists_eq_right, exists_eq_right', exists_eq, exists_eq', and_true, true_and, and_assoc, and_self, exists_const, reduceCtorEq, web_wE, web_pE, webD_inj]
  simp only [bar_not] at hq
  refine ⟨fun z => hq false ?_, fun z => ⟨fun z2 => ⟨fun z3 => ⟨fun z4 => ⟨fun z5 => hq _ ?_, fun z5 => hq _ ?_⟩, fun z4 => hq _ ?_⟩, fun z3 => ⟨fun _ => ⟨fun z5 => hq _ ?_, fun z5 => hq _ ?_⟩, fun f => f.elim⟩⟩, fun z2 => hq _ ?_⟩⟩
  all_goals
    simp only [decide_eq_true_eq, decide_eq_false_iff_not, Bool.false_eq_true, false_iff, true_iff] at *
    omega
theorem ok__law_sight_alone (T : Txt K mg) : FnOk P w K mg base (L2.CX P w) 1 T.f__law_sight_alone T.fd__law_sight_alone ["sight", "many"] (spOf K 2 (fs__law_sight_alone K)) := by
  refine def_ok T.F__law_sight_alone sc__law_sight_alone (wb := w__law_sight_alone K) pure__law_sight_alone ?_
  intro cdv A outer s H E hr tk
  exact ⟨_, (pss_cons (ps_if (pt_cmpR op_gt (pe_callB call_abs (by rfl) T.z_abs (by decide +kernel) (pa_cons (pe_ix ix_seq (pv 0) pe_int (fun _ _ => rfl)) pa_nil)) (pv 1) (nomark _))
        (pss_one (ps_ret pe_bl))
        pss_nil)
      (pss_one (ps_ret (pe_or (pe_cmpR op_eq (pe_ix ix_seq (pv 0) pe_int (fun _ _ => rfl)) pe_int (nomark _)) (pe_or (pe_and (pe_cmpR op_gt (pe_ix ix_seq (pv 0) pe_int (fun _ _ => rfl)) pe_int (nomark _)) (pe_one (pe_cmpR op_gt (pe_ix ix_seq (pe_ix ix_seq (pv 0) pe_int (fun _ _ => rfl)) pe_int (fun _ _ => rfl)) pe_int (nomark _)))) (pe_one (pe_and (pe_cmpR op_lt (pe_ix ix_seq (pv 0) pe_int (fun _ _ => rfl)) pe_int (nomark _)) (pe_one (pe_cmpR op_lt (pe_ix ix_seq (pe_ix ix_seq (pv 0) pe_int (fun _ _ => rfl)) pe_int (fun _ _ => rfl)) pe_int (nomark _)))))))))),
    (ds_seq (ds_if (dt_B (de_op o_gt (de_cb o_abs (da_cons (de_op o_ix (de_var 0) de_int) da_nil)) (de_var 1))) (ds_ret de_bl) ds_nil)
      (ds_ret (de_or (de_op o_eq (de_op o_ix (de_var 0) de_int) de_int) (de_or (de_and (de_op o_gt (de_op o_ix (de_var 0) de_int) de_int) (de_op o_gt (de_op o_ix (de_op o_ix (de_var 0) de_int) de_int) de_int)) (de_and (de_op o_lt (de_op o_ix (de_var 0) de_int) de_int) (de_op o_lt (de_op o_ix (de_op o_ix (de_var 0) de_int) de_int) de_int))))))⟩
abbrev s__law_below : Stmt := topS 43
theorem sc__law_below : FnScope ["one", "other"] ["one", "other"] (defScope s__law_below) := ⟨rfl, rfl, rfl, by decide +kernel, rfl, by decide +kernel, by decide +kernel⟩
def w__law_below (K : PySem.W.Frag) : SW := (wRet (wOp gLtI (wOp gMulA (wOp gIx (wVar 0) (wC (.int 0))) (wOp gIx (wVar 1) (wC (.int 1)))) (wOp gMulA (wOp gIx (wVar 1) (wC (.int 0))) (wOp gIx (wVar 0) (wC (.int 1))))))
def fs__law_below (K : PySem.W.Frag) : FS := fun cs q _ => ∃ a b c d : Int, cs = [.dat (.tup [.int a, .int b]), .dat (.tup [.int c, .int d])] ∧ CMulA a d ∧ CMulA c b ∧ q (.bl (decide (a * d < c * b))) cs
theorem pure__law_below : PureD 2 0 (fs__law_below K) (w__law_below K) := by
  rintro cs q e - ⟨a, b, c, d, rfl, h1, h2, hq⟩
  simp only [w__law_below, wAsg2, wTold2, wEnumB, wListOfOwn, wRetOwnG, dcOf, wIsiT, offE, D.adr.injEq, Cont.pool.injEq, ixN31, ne_eq, List.map_cons, List.map_nil, wRaise0, wRaise1, wFrz, wEnumT, wDict0, wDict1, numD3, Nat.reduceAdd, atI0, atI1, atI2, atI3, atI4, ixN51, ixN52, ixN53, List.length_map, scal, V.int.injEq, V.str.injEq, V.bl.injEq, wSq, wNext, wBreak, wDrop, wRet, wIfS, wAsg, wPar, wLstOwn, wAppend, wSetOwn, wIxOwn, wPeek, wRetFr, wFor, wB, wNot, wAnd, wOr, wAndV, wOrV, wNotV, wChain, wNil, wCons, wCB, wTup, wLst, wNoPart, wPart, wSlT, wSeq, wRng1, wRng2, wZip, wName, wNilT, wConsT, wTupT, wYes, wNeg, wVar, wC, wOp, wcNil, wcCons, wcOwn, wCall, wCallOwn, slots, cellsOf, OwnArgs, putBack, g2I, g2IC, gLen, gAbs, gGcd, gInt1, gTupleOf, gListOf, gIx, gCatT, gCat, gEq, gNe, gIsN, gNotN, scD, seqD_t, seqD_l, seqD_f, isNonD, List.nodup_cons, List.mem_cons, List.not_mem_nil, or_false, not_false_eq_true, Nat.reduceEqDiff, L3.Keeps, ends, wipeD, List.replicate, List.cons_append, List.nil_append, List.append_nil, List.getElem?_cons_zero, List.getElem?_cons_succ, List.set_cons_zero, List.set_cons_succ, List.getD_cons_zero, List.getD_cons_succ, List.length_cons, List.length_nil, List.nodup_nil, Option.some.injEq, Cell.dat.injEq, Cell.own.injEq, Cont.lst.injEq, D.bl.injEq, D.int.injEq, D.str.injEq, D.tup.injEq, D.lst.injEq, Arg.d.injEq, List.cons.injEq, exists_and_left, exists_and_right, exists_eq_left', exists_eq_left, exists_eq_right, exists_eq_right', exists_eq, exists_eq', and_true, true_and, and_assoc, and_self, exists_const, reduceCtorEq, web_wE, web_pE, webD_inj]
  exact ⟨h1, h2, hq⟩
theorem ok__law_below (T : Txt K mg) : FnOk P w K mg base (L2.CX P w) 1 T.f__law_below T.fd__law_below ["one", "other"] (spOf K 2 (fs__law_below K)) := by
  refine def_ok T.F__law_below sc__law_below (wb := w__law_below K) pure__law_below ?_
  intro cdv A outer s H E hr tk
  exact ⟨_, (pss_one (ps_ret (pe_cmpR op_lt (pe_op op_mulA (pe_ix ix_seq (pv 0) pe_int (fun _ _ => rfl)) (pe_ix ix_seq (pv 1) pe_int (fun _ _ => rfl))) (pe_op op_mulA (pe_ix ix_seq (pv 1) pe_int (fun _ _ => rfl)) (pe_ix ix_seq (pv 0) pe_int (fun _ _ => rfl))) (nomark _)))),
    (ds_ret (de_op o_lt (de_op o_mulA (de_op o_ix (de_var 0) de_int) (de_op o_ix (de_var 1) de_int)) (de_op o_mulA (de_op o_ix (de_var 1) de_int) (de_op o_ix (de_var 0) de_int))))⟩
abbrev s__law_abs : Stmt := topS 52
theorem sc__law_abs : FnScope ["one"] ["one"] (defScope s__law_abs) := ⟨rfl, rfl, rfl, by decide +kernel, rfl, by decide +kernel, by decide +kernel⟩
def w__law_abs (K : PySem.W.Frag) : SW := (wRet (wTup (wCons (wCB gAbs (wCons (wOp gIx (wVar 0) (wC (.int 0))) wNil)) (wCons (wOp gIx (wVar 0) (wC (.int 1))) wNil))))
def fs__law_abs (K : PySem.W.Frag) : FS := fun cs q _ => ∃ (t b : Int), cs = [.dat (.tup [.int t, .int b])] ∧ q (.tup [.int (ab t), .int b]) cs
theorem pure__law_abs : PureD 1 0 (fs__law_abs K) (w__law_abs K) := by
  rintro cs q e - ⟨t, b, rfl, hq⟩
  simp only [w__law_abs, seqD_t, atI0, atI1, wAsg2, wTold2, wEnumB, wListOfOwn, wRetOwnG, dcOf, wIsiT, offE, D.adr.injEq, Cont.pool.injEq, ixN31, ne_eq, List.map_cons, List.map_nil, wRaise0, wRaise1, wFrz, wEnumT, wDict0, wDict1, numD3, Nat.reduceAdd, atI0, atI1, atI2, atI3, atI4, ixN51, ixN52, ixN53, List.length_map, scal, V.int.injEq, V.str.injEq, V.bl.injEq, wSq, wNext, wBreak, wDrop, wRet, wIfS, wAsg, wPar, wLstOwn, wAppend, wSetOwn, wIxOwn, wPeek, wRetFr, wFor, wB, wNot, wAnd, wOr, wAndV, wOrV, wNotV, wChain, wNil, wCons, wCB, wTup, wLst, wNoPart, wPart, wSlT, wSeq, wRng1, wRng2, wZip, wName, wNilT, wConsT, wTupT, wYes, wNeg, wVar, wC, wOp, wcNil, wcCons, wcOwn, wCall, wCallOwn, slots, cellsOf, OwnArgs, putBack, g2I, g2IC, gLen, gAbs, gGcd, gInt1, gTupleOf, gListOf, gIx, gCatT, gCat, gEq, gNe, gIsN, gNotN, scD, seqD_t, seqD_l, seqD_f, isNonD, List.nodup_cons, List.mem_cons, List.not_mem_nil, or_false, not_false_eq_true, Nat.reduceEqDiff, L3.Keeps, ends, wipeD, List.replicate, List.cons_append, List.nil_append, List.append_nil, List.getElem?_cons_zero, List.getElem?_cons_succ, List.set_cons_zero, List.set_cons_succ, List.getD_cons_zero, List.getD_cons_succ, List.length_cons, List.length_nil, List.nodup_nil, Option.some.injEq, Cell.dat.injEq, Cell.own.injEq, Cont.lst.injEq, D.bl.injEq, D.int.injEq, D.str.injEq, D.tup.injEq, D.lst.injEq, Arg.d.injEq, List.cons.injEq, exists_and_left, exists_and_right, exists_eq_left', exists_eq_left, exists_eq_right, exists_eq_right', exists_eq, exists_eq', and_true, true_and, and_assoc, and_self, exists_const, reduceCtorEq, web_wE, web_pE, webD_inj]
  exact ⟨by decide, hq⟩
theorem ok__law_abs (T : Txt K mg) : FnOk P w K mg base (L2.CX P w) 1 T.f__law_abs T.fd__law_abs ["one"] (spOf K 1 (fs__law_abs K)) := by
  refine def_ok T.F__law_abs sc__law_abs (wb := w__law_abs K) pure__law_abs ?_
  intro cdv A outer s H E hr tk
  exact ⟨_, (pss_one (ps_ret (pe_tup (pa_cons (pe_callB call_abs (by rfl) T.z_abs (by decide +kernel) (pa_cons (pe_ix ix_seq (pv 0) pe_int (fun _ _ => rfl)) pa_nil)) (pa_cons (pe_ix ix_seq (pv 0) pe_int (fun _ _ => rfl)) pa_nil))))),
    (ds_ret (de_tup (da_cons (de_cb o_abs (da_cons (de_op o_ix (de_var 0) de_int) da_nil)) (da_cons (de_op o_ix (de_var 0) de_int) da_nil))))⟩
abbrev s__law_sights_agree : Stmt := topS 54
theorem sc__law_sights_agree : FnScope ["one", "other"] ["one", "other"] (defScope s__law_sights_agree) := ⟨rfl, rfl, rfl, by decide +kernel, rfl, by decide +kernel, by decide +kernel⟩
def w__law_sights_agree (K : PySem.W.Frag) : SW := (wSq (wIfS (wB (wOp gLtI (wCB gAbs (wCons (wOp gIx (wVar 0) (wC (.int 1))) wNil)) (wCB gAbs (wCons (wOp gIx (wVar 1) (wC (.int 1))) wNil)))) (wRet (wCall 2 (fs__law_below K) (wcCons (wCall 1 (fs__law_abs K) (wcCons (wOp gIx (wVar 0) (wC (.int 0))) wcNil)) (wcCons (wCall 1 (fs__law_abs K) (wcCons (wOp gIx (wVar 1) (wC (.int 0))) wcNil)) wcNil)))) wNext)
  (wSq (wIfS (wB (wOp gGtI (wCB gAbs (wCons (wOp gIx (wVar 0) (wC (.int 1))) wNil)) (wCB gAbs (wCons (wOp gIx (wVar 1) (wC (.int 1))) wNil)))) (wRet (wCall 2 (fs__law_below K) (wcCons (wCall 1 (fs__law_abs K) (wcCons (wOp gIx (wVar 1) (wC (.int 0))) wcNil)) (wcCons (wCall 1 (fs__law_abs K) (wcCons (wOp gIx (wVar 0) (wC (.int 0))) wcNil)) wcNil)))) wNext)
  (wRet (wC (.bl true)))))
def AgrP (x y : Sg) : Prop := (ab x.2.2 < ab y.2.2 → ¬ amLe y x) ∧ (ab y.2.2 < ab x.2.2 → ¬ amLe x y)
def fs__law_sights_agree (K : PySem.W.Frag) : FS := fun cs q _ => ∃ (x y : Sg), cs = [.dat (sgT x), .dat (sgT y)] ∧ SgOk x ∧ SgOk y ∧ ∀ b : Bool, (b = true ↔ AgrP x y) → q (.bl b) cs
theorem pure__law_sights_agree : PureD 2 0 (fs__law_sights_agree K) (w__law_sights_agree K) := by
  rintro cs q e - ⟨x, y, rfl, hx, hy, hq⟩
  have e1 : (if x.2.2 < 0 then -x.2.2 else x.2.2) = ab x.2.2 := rfl
  have e2 : (if y.2.2 < 0 then -y.2.2 else y.2.2) = ab y.2.2 := rfl
  simp only [w__law_sights_agree, fs__law_below, fs__law_abs, seqD_t, atI0, atI1, e1, e2, wAsg2, wTold2, wEnumB, wListOfOwn, wRetOwnG, dcOf, wIsiT, offE, D.adr.injEq, Cont.pool.injEq, ixN31, ne_eq, List.map_cons, List.map_nil, wRaise0, wRaise1, wFrz, wEnumT, wDict0, wDict1, numD3, Nat.reduceAdd, atI0, atI1, atI2, atI3, atI4, ixN51, ixN52, ixN53, List.length_map, scal, V.int.injEq, V.str.injEq, V.bl.injEq, wSq, wNext, wBreak, wDrop, wRet, wIfS, wAsg, wPar, wLstOwn, wAppend, wSetOwn, wIxOwn, wPeek, wRetFr, wFor, wB, wNot, wAnd, wOr, wAndV, wOrV, wNotV, wChain, wNil, wCons, wCB, wTup, wLst, wNoPart, wPart, wSlT, wSeq, wRng1, wRng2, wZip, wName, wNilT, wConsT, wTupT, wYes, wNeg, wVar, wC, wOp, wcNil, wcCons, wcOwn, wCall, wCallOwn, slots, cellsOf, OwnArgs, putBack, g2I, g2IC, gLen, gAbs, gGcd, gInt1, gTupleOf, gListOf, gIx, gCatT, gCat, gEq, gNe, gIsN, gNotN, scD, seqD_t, seqD_l, seqD_f, isNonD, List.nodup_cons, List.mem_cons, List.not_mem_nil, or_false, not_false_eq_true, Nat.reduceEqDiff, L3.Keeps, ends, wipeD, List.replicate, List.cons_append, List.nil_append, List.append_nil, List.getElem?_cons_zero, List.getElem?_cons_succ, List.set_cons_zero, List.set_cons_succ, List.getD_cons_zero, List.getD_cons_succ, List.length_cons, List.length_nil, List.nodup_nil, Option.some.injEq, Cell.dat.injEq, Cell.own.injEq, Cont.lst.injEq, D.bl.injEq, D.int.injEq, D.str.injEq, D.tup.injEq, D.lst.injEq, Arg.d.injEq, List.cons.injEq, exists_and_left, exists_and_right, exists_eq_left', exists_eq_left, exists_eq_right, exists_eq_right', exists_eq, exists_eq', and_true, true_and, and_assoc, and_self, exists_const, reduceCtorEq, web_wE, web_pE, webD_inj]
  have e3 : AgrP x y ↔ ((ab x.2.2 < ab y.2.2 → ¬ ab y.1 * x.2.1 ≤ ab x.1 * y.2.1) ∧ (ab y.2.2 < ab x.2.2 → ¬ ab x.1 * y.2.1 ≤ ab y.1 * x.2.1)) := Iff.rfl
  simp only [e3] at hq
  refine ⟨fun z => ⟨am_cm hx hy, am_cm hy hx, hq _ ?_⟩, fun z => ⟨fun z2 => ⟨am_cm hy hx, am_cm hx hy, hq _ ?_⟩, fun z2 => hq _ ?_⟩⟩
  all_goals
    simp only [decide_eq_true_eq, decide_eq_false_iff_not, true_iff] at *
    omega
theorem ok__law_sights_agree (T : Txt K mg) : FnOk P w K mg base (L2.CX P w) 2 T.f__law_sights_agree T.fd__law_sights_agree ["one", "other"] (spOf K 2 (fs__law_sights_agree K)) := by
  refine def_ok T.F__law_sights_agree sc__law_sights_agree (wb := w__law_sights_agree K) pure__law_sights_agree ?_
  intro cdv A outer s H E hr tk
  exact ⟨_, (pss_cons (ps_if (pt_cmpR op_lt (pe_callB call_abs (by rfl) T.z_abs (by decide +kernel) (pa_cons (pe_ix ix_seq (pv 0) pe_int (fun _ _ => rfl)) pa_nil)) (pe_callB call_abs (by rfl) T.z_abs (by decide +kernel) (pa_cons (pe_ix ix_seq (pv 1) pe_int (fun _ _ => rfl)) pa_nil)) (nomark _))
        (pss_one (ps_ret (pe_callS (ok__law_below T) (hr.mono (by decide)) rfl T.g__law_below T.k__law_below T.b__law_below (fun σ => passAt tk σ) (pa_cons (pe_callS (ok__law_abs T) (hr.mono (by decide)) rfl T.g__law_abs T.k__law_abs T.b__law_abs (fun σ => passAt tk σ) (pa_cons (pe_ix ix_seq (pv 0) pe_int (fun _ _ => rfl)) pa_nil)) (pa_cons (pe_callS (ok__law_abs T) (hr.mono (by decide)) rfl T.g__law_abs T.k__law_abs T.b__law_abs (fun σ => passAt tk σ) (pa_cons (pe_ix ix_seq (pv 1) pe_int (fun _ _ => rfl)) pa_nil)) pa_nil)))))
        pss_nil)
      (pss_cons (ps_if (pt_cmpR op_gt (pe_callB call_abs (by rfl) T.z_abs (by decide +kernel) (pa_cons (pe_ix ix_seq (pv 0) pe_int (fun _ _ => rfl)) pa_nil)) (pe_callB call_abs (by rfl) T.z_abs (by decide +kernel) (pa_cons (pe_ix ix_seq (pv 1) pe_int (fun _ _ => rfl)) pa_nil)) (nomark _))
        (pss_one (ps_ret (pe_callS (ok__law_below T) (hr.mono (by decide)) rfl T.g__law_below T.k__law_below T.b__law_below (fun σ => passAt tk σ) (pa_cons (pe_callS (ok__law_abs T) (hr.mono (by decide)) rfl T.g__law_abs T.k__law_abs T.b__law_abs (fun σ => passAt tk σ) (pa_cons (pe_ix ix_seq (pv 1) pe_int (fun _ _ => rfl)) pa_nil)) (pa_cons (pe_callS (ok__law_abs T) (hr.mono (by decide)) rfl T.g__law_abs T.k__law_abs T.b__law_abs (fun σ => passAt tk σ) (pa_cons (pe_ix ix_seq (pv 0) pe_int (fun _ _ => rfl)) pa_nil)) pa_nil)))))
        pss_nil)
      (pss_one (ps_ret pe_bl)))),
    (ds_seq (ds_if (dt_B (de_op o_lt (de_cb o_abs (da_cons (de_op o_ix (de_var 0) de_int) da_nil)) (de_cb o_abs (da_cons (de_op o_ix (de_var 1) de_int) da_nil)))) (ds_ret (de_call (n := 2) (fs := fs__law_below K) (dac_cons (de_call (n := 1) (fs := fs__law_abs K) (dac_cons (de_op o_ix (de_var 0) de_int) dac_nil)) (dac_cons (de_call (n := 1) (fs := fs__law_abs K) (dac_cons (de_op o_ix (de_var 1) de_int) dac_nil)) dac_nil)))) ds_nil)
      (ds_seq (ds_if (dt_B (de_op o_gt (de_cb o_abs (da_cons (de_op o_ix (de_var 0) de_int) da_nil)) (de_cb o_abs (da_cons (de_op o_ix (de_var 1) de_int) da_nil)))) (ds_ret (de_call (n := 2) (fs := fs__law_below K) (dac_cons (de_call (n := 1) (fs := fs__law_abs K) (dac_cons (de_op o_ix (de_var 1) de_int) dac_nil)) (dac_cons (de_call (n := 1) (fs := fs__law_abs K) (dac_cons (de_op o_ix (de_var 0) de_int) dac_nil)) dac_nil)))) ds_nil)
      (ds_ret de_bl)))⟩
abbrev s__law_some_list : Stmt := topS 55
theorem sc__law_some_list : FnScope ["rows", "many", "k", "j"] ["rows", "many"] (defScope s__law_some_list) := ⟨rfl, rfl, rfl, by decide +kernel, rfl, by decide +kernel, by decide +kernel⟩
def l1__law_some_list (K : PySem.W.Frag) : SW := wFor (wRng1 (wCons (wVar 2) wNil)) (wName 3) (wIfS (wNot (wB (wCall 2 (fs__law_sights_agree K) (wcCons (wOp gIx (wVar 0) (wVar 3)) (wcCons (wOp gIx (wVar 0) (wVar 2)) wcNil))))) (wRet (wC (.bl false))) wNext)
def l2__law_some_list (K : PySem.W.Frag) : SW := wFor (wRng1 (wCons (wCB gLen (wCons (wVar 0) wNil)) wNil)) (wName 2) (wSq (wIfS (wNot (wB (wCall 2 (fs__law_sight_alone K) (wcCons (wOp gIx (wVar 0) (wVar 2)) (wcCons (wVar 1) wcNil))))) (wRet (wC (.bl false))) wNext)
  (l1__law_some_list K))
def w__law_some_list (K : PySem.W.Frag) : SW := (wSq (l2__law_some_list K)
  (wRet (wC (.bl true))))
def SomP (m : Int) (ss : List Sg) : Prop := (∀ s ∈ ss, ¬ barP m s) ∧ ∀ x ∈ ss, ∀ y ∈ ss, ab x.2.2 < ab y.2.2 → ¬ amLe y x
theorem som_of {m : Int} {ss : List Sg} (h1 : ∀ s ∈ ss, ¬ barP m s) (h2 : ∀ (i j : Nat) (x y : Sg), j < i → ss[i]? = some x → ss[j]? = some y → AgrP y x) : SomP m ss := by
  refine ⟨h1, fun x hx y hy hr => ?_⟩
  obtain ⟨i, ei⟩ := List.getElem?_of_mem hx
  obtain ⟨j, ej⟩ := List.getElem?_of_mem hy
  rcases Nat.lt_trichotomy i j with h | h | h
  · exact (h2 j i y x h ej ei).1 hr
  · subst h
    rw [ei] at ej
    cases ej
    omega
  · exact (h2 i j x y h ei ej).2 hr
theorem som_agr {m : Int} {ss : List Sg} (h : SomP m ss) {x y : Sg} (hx : x ∈ ss) (hy : y ∈ ss) : AgrP x y := ⟨h.2 x hx y hy, h.2 y hy x hx⟩
/-- the eleventh fact, for sights that are told -/
theorem clash_som {m : Int} {ss : List Sg} : ClashP m ss ↔ ¬ SomP m ss := by
  constructor
  · rintro (⟨s, hs, hb⟩ | ⟨n, n1, n2, x, hx, y, hy, h1, h2, h3⟩) ⟨a, b⟩
    · exact a s hs hb
    · exact b x hx y hy (by omega) h3
  · intro h
    refine Classical.byContradiction fun hno => h ⟨fun s hs hb => hno (.inl ⟨s, hs, hb⟩), fun x hx y hy hr hle => ?_⟩
    have hy2 : ¬ barP m y := fun hb => hno (.inl ⟨y, hy, hb⟩)
    have hm : ¬ m < ab y.2.2 := fun z => hy2 (.inl z)
    have := ab_nn x.2.2
    exact hno (.inr ⟨ab y.2.2, by omega, by omega, x, hx, y, hy, hr, by omega, hle⟩)
def fs__law_some_list (K : PySem.W.Frag) : FS := fun cs q _ => ∃ (ss : List Sg) (m : Int), cs = [.dat (.lst (sgs ss)), .dat (.int m)] ∧ ss.length ≤ 1000 ∧ (∀ s ∈ ss, SgOk s) ∧ ∀ b : Bool, (b = true ↔ SomP m ss) → q (.bl b) cs
section
variable {ss : List Sg} {m : Int} {E : EndsD} {c3 : Cell}
theorem l1__law_some_list_ok {i : Nat} {x : Sg} (ei : ss[i]? = some x) (ok : ∀ s ∈ ss, SgOk s) (hl : ss.length ≤ 1000)
    (hn : ∀ c3, (∀ j y, j < i → ss[j]? = some y → AgrP y x) → E.nx [.dat (.lst (sgs ss)), .dat (.int m), .dat (.int (i : Nat)), c3]) (hr : ∀ c3, (∃ y ∈ ss, ¬ AgrP y x) → E.rt (.bl false) [.dat (.lst (sgs ss)), .dat (.int m), .dat (.int (i : Nat)), c3]) :
    l1__law_some_list K E [.dat (.lst (sgs ss)), .dat (.int m), .dat (.int (i : Nat)), c3] := by
  have il := (List.getElem?_eq_some_iff.mp ei).1
  have ai : atI (sgs ss) ((i : Nat) : Int) = some (sgT x) := atI_nat' (by rw [List.getElem?_map, ei]; rfl)
  unfold l1__law_some_list wFor
  simp only [seqD_l, wAsg2, wTold2, wEnumB, wListOfOwn, wRetOwnG, dcOf, wIsiT, offE, D.adr.injEq, Cont.pool.injEq, ixN31, ne_eq, List.map_cons, List.map_nil, wRaise0, wRaise1, wFrz, wEnumT, wDict0, wDict1, numD3, Nat.reduceAdd, atI0, atI1, atI2, atI3, atI4, ixN51, ixN52, ixN53, List.length_map, scal, V.int.injEq, V.str.injEq, V.bl.injEq, wSq, wNext, wBreak, wDrop, wRet, wIfS, wAsg, wPar, wLstOwn, wAppend, wSetOwn, wIxOwn, wPeek, wRetFr, wFor, wB, wNot, wAnd, wOr, wAndV, wOrV, wNotV, wChain, wNil, wCons, wCB, wTup, wLst, wNoPart, wPart, wSlT, wSeq, wRng1, wRng2, wZip, wName, wNilT, wConsT, wTupT, wYes, wNeg, wVar, wC, wOp, wcNil, wcCons, wcOwn, wCall, wCallOwn, slots, cellsOf, OwnArgs, putBack, g2I, g2IC, gLen, gAbs, gGcd, gInt1, gTupleOf, gListOf, gIx, gCatT, gCat, gEq, gNe, gIsN, gNotN, scD, seqD_t, seqD_l, seqD_f, isNonD, List.nodup_cons, List.mem_cons, List.not_mem_nil, or_false, not_false_eq_true, Nat.reduceEqDiff, L3.Keeps, ends, wipeD, List.replicate, List.cons_append, List.nil_append, List.append_nil, List.getElem?_cons_zero, List.getElem?_cons_succ, List.set_cons_zero, List.set_cons_succ, List.getD_cons_zero, List.getD_cons_succ, List.length_cons, List.length_nil, List.nodup_nil, Option.some.injEq, Cell.dat.injEq, Cell.own.injEq, Cont.lst.injEq, D.bl.injEq, D.int.injEq, D.str.injEq, D.tup.injEq, D.lst.injEq, Arg.d.injEq, List.cons.injEq, exists_and_left, exists_and_right, exists_eq_left', exists_eq_left, exists_eq_right, exists_eq_right', exists_eq, exists_eq', and_true, true_and, and_assoc, and_self, exists_const, reduceCtorEq, web_wE, web_pE, webD_inj]
  refine ⟨by omega, by omega, fun j τ => ∃ c3, τ = [.dat (.lst (sgs ss)), .dat (.int m), .dat (.int (i : Nat)), c3] ∧ ∀ k y, k < j → ss[k]? = some y → AgrP y x, ⟨_, rfl, fun k y h => absurd h (Nat.not_lt_zero _)⟩, ?_, ?_⟩
  · rintro j d τ2 hi ⟨c3, rfl, hk⟩
    have hlt := (List.getElem?_eq_some_iff.mp hi).1
    rw [rangeD_length] at hlt
    rw [rangeD_get (by omega)] at hi
    cases hi
    have ej : ss[j]? = some ss[j] := List.getElem?_eq_getElem (by omega)
    have aj : atI (sgs ss) (0 + ((j : Nat) : Int)) = some (sgT ss[j]) := by
      rw [Int.zero_add]
      exact atI_nat' (by rw [List.getElem?_map, ej]; rfl)
    have mj := List.mem_of_getElem? ej
    simp only [fs__law_sights_agree, aj, ai, seqD_l, wAsg2, wTold2, wEnumB, wListOfOwn, wRetOwnG, dcOf, wIsiT, offE, D.adr.injEq, Cont.pool.injEq, ixN31, ne_eq, List.map_cons, List.map_nil, wRaise0, wRaise1, wFrz, wEnumT, wDict0, wDict1, numD3, Nat.reduceAdd, atI0, atI1, atI2, atI3, atI4, ixN51, ixN52, ixN53, List.length_map, scal, V.int.injEq, V.str.injEq, V.bl.injEq, wSq, wNext, wBreak, wDrop, wRet, wIfS, wAsg, wPar, wLstOwn, wAppend, wSetOwn, wIxOwn, wPeek, wRetFr, wFor, wB, wNot, wAnd, wOr, wAndV, wOrV, wNotV, wChain, wNil, wCons, wCB, wTup, wLst, wNoPart, wPart, wSlT, wSeq, wRng1, wRng2, wZip, wName, wNilT, wConsT, wTupT, wYes, wNeg, wVar, wC, wOp, wcNil, wcCons, wcOwn, wCall, wCallOwn, slots, cellsOf, OwnArgs, putBack, g2I, g2IC, gLen, gAbs, gGcd, gInt1, gTupleOf, gListOf, gIx, gCatT, gCat, gEq, gNe, gIsN, gNotN, scD, seqD_t, seqD_l, seqD_f, isNonD, List.nodup_cons, List.mem_cons, List.not_mem_nil, or_false, not_false_eq_true, Nat.reduceEqDiff, L3.Keeps, ends, wipeD, List.replicate, List.cons_append, List.nil_append, List.append_nil, List.getElem?_cons_zero, List.getElem?_cons_succ, List.set_cons_zero, List.set_cons_succ, List.getD_cons_zero, List.getD_cons_succ, List.length_cons, List.length_nil, List.nodup_nil, Option.some.injEq, Cell.dat.injEq, Cell.own.injEq, Cont.lst.injEq, D.bl.injEq, D.int.injEq, D.str.injEq, D.tup.injEq, D.lst.injEq, Arg.d.injEq, List.cons.injEq, exists_and_left, exists_and_right, exists_eq_left', exists_eq_left, exists_eq_right, exists_eq_right', exists_eq, exists_eq', and_true, true_and, and_assoc, and_self, exists_const, reduceCtorEq, web_wE, web_pE, webD_inj]
    refine ⟨ss[j], rfl, rfl, rfl, x, rfl, rfl, rfl, ok _ mj, ok _ (List.mem_of_getElem? ei), fun b hb => ⟨fun z => hr _ ⟨ss[j], mj, fun h => (by rw [hb.mpr h] at z; cases z)⟩, fun z k y hk2 ek => ?_⟩⟩
    by_cases e : k = j
    · subst e
      rw [ej] at ek
      cases ek
      exact hb.mp (by simpa using z)
    · exact hk k y (by omega) ek
  · rintro τ2 ⟨c3, rfl, hk⟩
    rw [rangeD_length] at hk
    exact hn _ fun k y h => hk k y (by omega)
theorem l2__law_some_list_ok {c2 : Cell} (ok : ∀ s ∈ ss, SgOk s) (hl : ss.length ≤ 1000) (hn : ∀ c2 c3, SomP m ss → E.nx [.dat (.lst (sgs ss)), .dat (.int m), c2, c3]) (hr : ∀ c2 c3, ¬ SomP m ss → E.rt (.bl false) [.dat (.lst (sgs ss)), .dat (.int m), c2, c3]) :
    l2__law_some_list K E [.dat (.lst (sgs ss)), .dat (.int m), c2, c3] := by
  unfold l2__law_some_list wFor
  simp only [seqD_l, wAsg2, wTold2, wEnumB, wListOfOwn, wRetOwnG, dcOf, wIsiT, offE, D.adr.injEq, Cont.pool.injEq, ixN31, ne_eq, List.map_cons, List.map_nil, wRaise0, wRaise1, wFrz, wEnumT, wDict0, wDict1, numD3, Nat.reduceAdd, atI0, atI1, atI2, atI3, atI4, ixN51, ixN52, ixN53, List.length_map, scal, V.int.injEq, V.str.injEq, V.bl.injEq, wSq, wNext, wBreak, wDrop, wRet, wIfS, wAsg, wPar, wLstOwn, wAppend, wSetOwn, wIxOwn, wPeek, wRetFr, wFor, wB, wNot, wAnd, wOr, wAndV, wOrV, wNotV, wChain, wNil, wCons, wCB, wTup, wLst, wNoPart, wPart, wSlT, wSeq, wRng1, wRng2, wZip, wName, wNilT, wConsT, wTupT, wYes, wNeg, wVar, wC, wOp, wcNil, wcCons, wcOwn, wCall, wCallOwn, slots, cellsOf, OwnArgs, putBack, g2I, g2IC, gLen, gAbs, gGcd, gInt1, gTupleOf, gListOf, gIx, gCatT, gCat, gEq, gNe, gIsN, gNotN, scD, seqD_t, seqD_l, seqD_f, isNonD, List.nodup_cons, List.mem_cons, List.not_mem_nil, or_false, not_false_eq_true, Nat.reduceEqDiff, L3.Keeps, ends, wipeD, List.replicate, List.cons_append, List.nil_append, List.append_nil, List.getElem?_cons_zero, List.getElem?_cons_succ, List.set_cons_zero, List.set_cons_succ, List.getD_cons_zero, List.getD_cons_succ, List.length_cons, List.length_nil, List.nodup_nil, Option.some.injEq, Cell.dat.injEq, Cell.own.injEq, Cont.lst.injEq, D.bl.injEq, D.int.injEq, D.str.injEq, D.tup.injEq, D.lst.injEq, Arg.d.injEq, List.cons.injEq, exists_and_left, exists_and_right, exists_eq_left', exists_eq_left, exists_eq_right, exists_eq_right', exists_eq, exists_eq', and_true, true_and, and_assoc, and_self, exists_const, reduceCtorEq, web_wE, web_pE, webD_inj]
  refine ⟨by omega, by omega, fun i τ => ∃ c2 c3, τ = [.dat (.lst (sgs ss)), .dat (.int m), c2, c3] ∧ (∀ k y, k < i → ss[k]? = some y → ¬ barP m y) ∧ ∀ k j x y, k < i → j < k → ss[k]? = some x → ss[j]? = some y → AgrP y x, ⟨_, _, rfl, fun k y h => absurd h (Nat.not_lt_zero _), fun k j x y h => absurd h (Nat.not_lt_zero _)⟩, ?_, ?_⟩
  · rintro i d τ2 hi ⟨c2, c3, rfl, hb, hk⟩
    have hlt := (List.getElem?_eq_some_iff.mp hi).1
    rw [rangeD_length] at hlt
    rw [rangeD_get (by omega)] at hi
    cases hi
    have ei : ss[i]? = some ss[i] := List.getElem?_eq_getElem (by omega)
    have ai : atI (sgs ss) (0 + ((i : Nat) : Int)) = some (sgT ss[i]) := by
      rw [Int.zero_add]
      exact atI_nat' (by rw [List.getElem?_map, ei]; rfl)
    have mi := List.mem_of_getElem? ei
    simp only [fs__law_sight_alone, ai, seqD_l, wAsg2, wTold2, wEnumB, wListOfOwn, wRetOwnG, dcOf, wIsiT, offE, D.adr.injEq, Cont.pool.injEq, ixN31, ne_eq, List.map_cons, List.map_nil, wRaise0, wRaise1, wFrz, wEnumT, wDict0, wDict1, numD3, Nat.reduceAdd, atI0, atI1, atI2, atI3, atI4, ixN51, ixN52, ixN53, List.length_map, scal, V.int.injEq, V.str.injEq, V.bl.injEq, wSq, wNext, wBreak, wDrop, wRet, wIfS, wAsg, wPar, wLstOwn, wAppend, wSetOwn, wIxOwn, wPeek, wRetFr, wFor, wB, wNot, wAnd, wOr, wAndV, wOrV, wNotV, wChain, wNil, wCons, wCB, wTup, wLst, wNoPart, wPart, wSlT, wSeq, wRng1, wRng2, wZip, wName, wNilT, wConsT, wTupT, wYes, wNeg, wVar, wC, wOp, wcNil, wcCons, wcOwn, wCall, wCallOwn, slots, cellsOf, OwnArgs, putBack, g2I, g2IC, gLen, gAbs, gGcd, gInt1, gTupleOf, gListOf, gIx, gCatT, gCat, gEq, gNe, gIsN, gNotN, scD, seqD_t, seqD_l, seqD_f, isNonD, List.nodup_cons, List.mem_cons, List.not_mem_nil, or_false, not_false_eq_true, Nat.reduceEqDiff, L3.Keeps, ends, wipeD, List.replicate, List.cons_append, List.nil_append, List.append_nil, List.getElem?_cons_zero, List.getElem?_cons_succ, List.set_cons_zero, List.set_cons_succ, List.getD_cons_zero, List.getD_cons_succ, List.length_cons, List.length_nil, List.nodup_nil, Option.some.injEq, Cell.dat.injEq, Cell.own.injEq, Cont.lst.injEq, D.bl.injEq, D.int.injEq, D.str.injEq, D.tup.injEq, D.lst.injEq, Arg.d.injEq, List.cons.injEq, exists_and_left, exists_and_right, exists_eq_left', exists_eq_left, exists_eq_right, exists_eq_right', exists_eq, exists_eq', and_true, true_and, and_assoc, and_self, exists_const, reduceCtorEq, web_wE, web_pE, webD_inj]
    refine ⟨ss[i], rfl, rfl, rfl, fun b hb2 => ⟨fun z => hr _ _ fun h => (by rw [hb2.mpr (h.1 _ mi)] at z; cases z), fun z => ?_⟩⟩
    rw [Int.zero_add]
    refine l1__law_some_list_ok ei ok hl (fun c3 h => ⟨⟨_, _, rfl⟩, fun k y hk2 ek => ?_, fun k j x y hk2 hj ek ej => ?_⟩) fun c3 ⟨y, hy, hn2⟩ => hr _ _ fun h => hn2 (som_agr h hy mi)
    · by_cases e : k = i
      · subst e
        rw [ei] at ek
        cases ek
        exact hb2.mp (by simpa using z)
      · exact hb k y (by omega) ek
    · by_cases e : k = i
      · subst e
        rw [ei] at ek
        cases ek
        exact h j y hj ej
      · exact hk k j x y (by omega) hj ek ej
  · rintro τ2 ⟨c2, c3, rfl, hb, hk⟩
    rw [rangeD_length] at hb hk
    refine hn _ _ (som_of (fun s hs => ?_) fun i j x y h ei ej => hk i j x y (by have := (List.getElem?_eq_some_iff.mp ei).1; omega) h ei ej)
    obtain ⟨k, ek⟩ := List.getElem?_of_mem hs
    exact hb k s (by have := (List.getElem?_eq_some_iff.mp ek).1; omega) ek
end
theorem pure__law_some_list : PureD 2 2 (fs__law_some_list K) (w__law_some_list K) := by
  rintro cs q e - ⟨ss, m, rfl, hl, ok, hq⟩
  simp only [w__law_some_list, wAsg2, wTold2, wEnumB, wListOfOwn, wRetOwnG, dcOf, wIsiT, offE, D.adr.injEq, Cont.pool.injEq, ixN31, ne_eq, List.map_cons, List.map_nil, wRaise0, wRaise1, wFrz, wEnumT, wDict0, wDict1, numD3, Nat.reduceAdd, atI0, atI1, atI2, atI3, atI4, ixN51, ixN52, ixN53, List.length_map, scal, V.int.injEq, V.str.injEq, V.bl.injEq, wSq, wNext, wBreak, wDrop, wRet, wIfS, wAsg, wPar, wLstOwn, wAppend, wSetOwn, wIxOwn, wPeek, wRetFr, wFor, wB, wNot, wAnd, wOr, wAndV, wOrV, wNotV, wChain, wNil, wCons, wCB, wTup, wLst, wNoPart, wPart, wSlT, wSeq, wRng1, wRng2, wZip, wName, wNilT, wConsT, wTupT, wYes, wNeg, wVar, wC, wOp, wcNil, wcCons, wcOwn, wCall, wCallOwn, slots, cellsOf, OwnArgs, putBack, g2I, g2IC, gLen, gAbs, gGcd, gInt1, gTupleOf, gListOf, gIx, gCatT, gCat, gEq, gNe, gIsN, gNotN, scD, seqD_t, seqD_l, seqD_f, isNonD, List.nodup_cons, List.mem_cons, List.not_mem_nil, or_false, not_false_eq_true, Nat.reduceEqDiff, L3.Keeps, ends, wipeD, List.replicate, List.cons_append, List.nil_append, List.append_nil, List.getElem?_cons_zero, List.getElem?_cons_succ, List.set_cons_zero, List.set_cons_succ, List.getD_cons_zero, List.getD_cons_succ, List.length_cons, List.length_nil, List.nodup_nil, Option.some.injEq, Cell.dat.injEq, Cell.own.injEq, Cont.lst.injEq, D.bl.injEq, D.int.injEq, D.str.injEq, D.tup.injEq, D.lst.injEq, Arg.d.injEq, List.cons.injEq, exists_and_left, exists_and_right, exists_eq_left', exists_eq_left, exists_eq_right, exists_eq_right', exists_eq, exists_eq', and_true, true_and, and_assoc, and_self, exists_const, reduceCtorEq, web_wE, web_pE, webD_inj]
  refine l2__law_some_list_ok ok hl (fun c2 c3 h => ?_) fun c2 c3 h => ?_
  · simp only [wAsg2, wTold2, wEnumB, wListOfOwn, wRetOwnG, dcOf, wIsiT, offE, D.adr.injEq, Cont.pool.injEq, ixN31, ne_eq, List.map_cons, List.map_nil, wRaise0, wRaise1, wFrz, wEnumT, wDict0, wDict1, numD3, Nat.reduceAdd, atI0, atI1, atI2, atI3, atI4, ixN51, ixN52, ixN53, List.length_map, scal, V.int.injEq, V.str.injEq, V.bl.injEq, wSq, wNext, wBreak, wDrop, wRet, wIfS, wAsg, wPar, wLstOwn, wAppend, wSetOwn, wIxOwn, wPeek, wRetFr, wFor, wB, wNot, wAnd, wOr, wAndV, wOrV, wNotV, wChain, wNil, wCons, wCB, wTup, wLst, wNoPart, wPart, wSlT, wSeq, wRng1, wRng2, wZip, wName, wNilT, wConsT, wTupT, wYes, wNeg, wVar, wC, wOp, wcNil, wcCons, wcOwn, wCall, wCallOwn, slots, cellsOf, OwnArgs, putBack, g2I, g2IC, gLen, gAbs, gGcd, gInt1, gTupleOf, gListOf, gIx, gCatT, gCat, gEq, gNe, gIsN, gNotN, scD, seqD_t, seqD_l, seqD_f, isNonD, List.nodup_cons, List.mem_cons, List.not_mem_nil, or_false, not_false_eq_true, Nat.reduceEqDiff, L3.Keeps, ends, wipeD, List.replicate, List.cons_append, List.nil_append, List.append_nil, List.getElem?_cons_zero, List.getElem?_cons_succ, List.set_cons_zero, List.set_cons_succ, List.getD_cons_zero, List.getD_cons_succ, List.length_cons, List.length_nil, List.nodup_nil, Option.some.injEq, Cell.dat.injEq, Cell.own.injEq, Cont.lst.injEq, D.bl.injEq, D.int.injEq, D.str.injEq, D.tup.injEq, D.lst.injEq, Arg.d.injEq, List.cons.injEq, exists_and_left, exists_and_right, exists_eq_left', exists_eq_left, exists_eq_right, exists_eq_right', exists_eq, exists_eq', and_true, true_and, and_assoc, and_self, exists_const, reduceCtorEq, web_wE, web_pE, webD_inj]
    exact hq true ⟨fun _ => h, fun _ => rfl⟩
  · simp only [wAsg2, wTold2, wEnumB, wListOfOwn, wRetOwnG, dcOf, wIsiT, offE, D.adr.injEq, Cont.pool.injEq, ixN31, ne_eq, List.map_cons, List.map_nil, wRaise0, wRaise1, wFrz, wEnumT, wDict0, wDict1, numD3, Nat.reduceAdd, atI0, atI1, atI2, atI3, atI4, ixN51, ixN52, ixN53, List.length_map, scal, V.int.injEq, V.str.injEq, V.bl.injEq, wSq, wNext, wBreak, wDrop, wRet, wIfS, wAsg, wPar, wLstOwn, wAppend, wSetOwn, wIxOwn, wPeek, wRetFr, wFor, wB, wNot, wAnd, wOr, wAndV, wOrV, wNotV, wChain, wNil, wCons, wCB, wTup, wLst, wNoPart, wPart, wSlT, wSeq, wRng1, wRng2, wZip, wName, wNilT, wConsT, wTupT, wYes, wNeg, wVar, wC, wOp, wcNil, wcCons, wcOwn, wCall, wCallOwn, slots, cellsOf, OwnArgs, putBack, g2I, g2IC, gLen, gAbs, gGcd, gInt1, gTupleOf, gListOf, gIx, gCatT, gCat, gEq, gNe, gIsN, gNotN, scD, seqD_t, seqD_l, seqD_f, isNonD, List.nodup_cons, List.mem_cons, List.not_mem_nil, or_false, not_false_eq_true, Nat.reduceEqDiff, L3.Keeps, ends, wipeD, List.replicate, List.cons_append, List.nil_append, List.append_nil, List.getElem?_cons_zero, List.getElem?_cons_succ, List.set_cons_zero, List.set_cons_succ, List.getD_cons_zero, List.getD_cons_succ, List.length_cons, List.length_nil, List.nodup_nil, Option.some.injEq, Cell.dat.injEq, Cell.own.injEq, Cont.lst.injEq, D.bl.injEq, D.int.injEq, D.str.injEq, D.tup.injEq, D.lst.injEq, Arg.d.injEq, List.cons.injEq, exists_and_left, exists_and_right, exists_eq_left', exists_eq_left, exists_eq_right, exists_eq_right', exists_eq, exists_eq', and_true, true_and, and_assoc, and_self, exists_const, reduceCtorEq, web_wE, web_pE, webD_inj]
    exact hq false ⟨fun z => (nomatch z), fun z => absurd z h⟩
theorem ok__law_some_list (T : Txt K mg) : FnOk P w K mg base (L2.CX P w) 3 T.f__law_some_list T.fd__law_some_list ["rows", "many"] (spOf K 2 (fs__law_some_list K)) := by
  refine def_ok T.F__law_some_list sc__law_some_list (wb := w__law_some_list K) pure__law_some_list ?_
  intro cdv A outer s H E hr tk
  exact ⟨_, (pss_cons (ps_for (passes_of rfl) rfl (pi_range1 (by rfl) T.z_range (pa_cons (pe_callB call_len_seq (by rfl) T.z_len (by decide +kernel) (pa_cons (pv 0) pa_nil)) pa_nil)) (pg_name (i := 2) sc__law_some_list.nd rfl (by first | exact Or.inl rfl | exact Or.inr rfl))
        (pss_cons (ps_if (pt_not (pt_val (pe_callS (ok__law_sight_alone T) (hr.mono (by decide)) rfl T.g__law_sight_alone T.k__law_sight_alone T.b__law_sight_alone (fun σ => passAt tk σ) (pa_cons (pe_ix ix_seq (pv 0) (pv 2) (fun _ _ => rfl)) (pa_cons (pv 1) pa_nil)))))
        (pss_one (ps_ret pe_bl))
        pss_nil)
      (pss_one (ps_for (passes_of rfl) rfl (pi_range1 (by rfl) T.z_range (pa_cons (pv 2) pa_nil)) (pg_name (i := 3) sc__law_some_list.nd rfl (by first | exact Or.inl rfl | exact Or.inr rfl))
        (pss_one (ps_if (pt_not (pt_val (pe_callS (ok__law_sights_agree T) (hr.mono (by decide)) rfl T.g__law_sights_agree T.k__law_sights_agree T.b__law_sights_agree (fun σ => passAt tk σ) (pa_cons (pe_ix ix_seq (pv 0) (pv 3) (fun _ _ => rfl)) (pa_cons (pe_ix ix_seq (pv 0) (pv 2) (fun _ _ => rfl)) pa_nil)))))
        (pss_one (ps_ret pe_bl))
        pss_nil))))))
      (pss_one (ps_ret pe_bl))),
    (ds_seq (ds_for (wI := (wRng1 (wCons (wCB gLen (wCons (wVar 0) wNil)) wNil))) (wg := (wName 2)) (wb := (wSq (wIfS (wNot (wB (wCall 2 (fs__law_sight_alone K) (wcCons (wOp gIx (wVar 0) (wVar 2)) (wcCons (wVar 1) wcNil))))) (wRet (wC (.bl false))) wNext)
  (l1__law_some_list K))) (di_rng1 (da_cons (de_cb o_len (da_cons (de_var 0) da_nil)) da_nil)) (dg_name 2) (ds_seq (ds_if (dt_not (dt_B (de_call (n := 2) (fs := fs__law_sight_alone K) (dac_cons (de_op o_ix (de_var 0) (de_var 2)) (dac_cons (de_var 1) dac_nil))))) (ds_ret de_bl) ds_nil)
      (ds_for (wI := (wRng1 (wCons (wVar 2) wNil))) (wg := (wName 3)) (wb := (wIfS (wNot (wB (wCall 2 (fs__law_sights_agree K) (wcCons (wOp gIx (wVar 0) (wVar 3)) (wcCons (wOp gIx (wVar 0) (wVar 2)) wcNil))))) (wRet (wC (.bl false))) wNext)) (di_rng1 (da_cons (de_var 2) da_nil)) (dg_name 3) (ds_if (dt_not (dt_B (de_call (n := 2) (fs := fs__law_sights_agree K) (dac_cons (de_op o_ix (de_var 0) (de_var 3)) (dac_cons (de_op o_ix (de_var 0) (de_var 2)) dac_nil))))) (ds_ret de_bl) ds_nil))))
      (ds_ret de_bl))⟩
abbrev s__law_due : Stmt := topS 59
theorem sc__law_due : FnScope ["rows", "many", "thing", "index"] ["rows", "many", "thing"] (defScope s__law_due) := ⟨rfl, rfl, rfl, by decide +kernel, rfl, by decide +kernel, by decide +kernel⟩
def l1__law_due (K : PySem.W.Frag) : SW := wFor (wSeq (wVar 2)) (wName 3) (wIfS (wOr (wNot (wB (wCall 1 (fs__law_integer K) (wcCons (wVar 3) wcNil)))) (wOr (wB (wOp gLtI (wVar 3) (wC (.int 0)))) (wB (wOp gGeI (wVar 3) (wCB gLen (wCons (wVar 0) wNil)))))) (wRet (wC (.bl false))) wNext)
def c2__law_due (K : PySem.W.Frag) : EW := wLc (wSeq (wVar 2)) (wName 3) wYes (wOp gIx (wVar 0) (wVar 3)) [3]
def w__law_due (K : PySem.W.Frag) : SW := (wSq (wIfS (wOr (wNot (wB (wCB (gIsi K) (wCons (wVar 2) (wCons (wC (.ty "tuple")) wNil))))) (wOr (wB (wOp gLtI (wCB gLen (wCons (wVar 2) wNil)) (wC (.int 1)))) (wB (wOp gGtI (wCB gLen (wCons (wVar 2) wNil)) (wC (.int 2)))))) (wRet (wC (.bl false))) wNext)
  (wSq (l1__law_due K)
  (wSq (wIfS (wAnd (wB (wOp gEq (wCB gLen (wCons (wVar 2) wNil)) (wC (.int 2)))) (wB (wOp gEqD (wOp gIx (wVar 2) (wC (.int 0))) (wOp gIx (wVar 2) (wC (.int 1)))))) (wRet (wC (.bl false))) wNext)
  (wRet (wNotV (wCall 2 (fs__law_some_list K) (wcCons (c2__law_due K) (wcCons (wVar 1) wcNil))))))))
def fs__law_due (K : PySem.W.Frag) : FS := fun cs q _ => ∃ (ss : List Sg) (m : Int) (th : D), cs = [.dat (.lst (sgs ss)), .dat (.int m), .dat th] ∧ ss.length ≤ 1000 ∧ (∀ s ∈ ss, SgOk s) ∧ OkD K th ∧ ∀ b : Bool, (b = true ↔ ∃ is, ThV ss.length th is ∧ ¬ SomP m (pkS ss is)) → q (.bl b) cs
section
variable {ss : List Sg} {m : Int} {ts : List D} {E : EndsD} {c3 : Cell}
theorem l1__law_due_ok (ht : ∀ x ∈ ts, OkD K x) (hn : ∀ c3, (∀ t ∈ ts, isBetw 0 ((ss.length : Int) - 1) t = true) → E.nx [.dat (.lst (sgs ss)), .dat (.int m), .dat (.tup ts), c3]) (hr : ∀ c3, (∃ t ∈ ts, isBetw 0 ((ss.length : Int) - 1) t = false) → E.rt (.bl false) [.dat (.lst (sgs ss)), .dat (.int m), .dat (.tup ts), c3]) :
    l1__law_due K E [.dat (.lst (sgs ss)), .dat (.int m), .dat (.tup ts), c3] := by
  unfold l1__law_due wFor
  simp only [seqD_l, seqD_t, fs__law_integer, wAsg2, wTold2, wEnumB, wListOfOwn, wRetOwnG, dcOf, wIsiT, offE, D.adr.injEq, Cont.pool.injEq, ixN31, ne_eq, List.map_cons, List.map_nil, wRaise0, wRaise1, wFrz, wEnumT, wDict0, wDict1, numD3, Nat.reduceAdd, atI0, atI1, atI2, atI3, atI4, ixN51, ixN52, ixN53, List.length_map, scal, V.int.injEq, V.str.injEq, V.bl.injEq, wSq, wNext, wBreak, wDrop, wRet, wIfS, wAsg, wPar, wLstOwn, wAppend, wSetOwn, wIxOwn, wPeek, wRetFr, wFor, wB, wNot, wAnd, wOr, wAndV, wOrV, wNotV, wChain, wNil, wCons, wCB, wTup, wLst, wNoPart, wPart, wSlT, wSeq, wRng1, wRng2, wZip, wName, wNilT, wConsT, wTupT, wYes, wNeg, wVar, wC, wOp, wcNil, wcCons, wcOwn, wCall, wCallOwn, slots, cellsOf, OwnArgs, putBack, g2I, g2IC, gLen, gAbs, gGcd, gInt1, gTupleOf, gListOf, gIx, gCatT, gCat, gEq, gNe, gIsN, gNotN, scD, seqD_t, seqD_l, seqD_f, isNonD, List.nodup_cons, List.mem_cons, List.not_mem_nil, or_false, not_false_eq_true, Nat.reduceEqDiff, L3.Keeps, ends, wipeD, List.replicate, List.cons_append, List.nil_append, List.append_nil, List.getElem?_cons_zero, List.getElem?_cons_succ, List.set_cons_zero, List.set_cons_succ, List.getD_cons_zero, List.getD_cons_succ, List.length_cons, List.length_nil, List.nodup_nil, Option.some.injEq, Cell.dat.injEq, Cell.own.injEq, Cont.lst.injEq, D.bl.injEq, D.int.injEq, D.str.injEq, D.tup.injEq, D.lst.injEq, Arg.d.injEq, List.cons.injEq, exists_and_left, exists_and_right, exists_eq_left', exists_eq_left, exists_eq_right, exists_eq_right', exists_eq, exists_eq', and_true, true_and, and_assoc, and_self, exists_const, reduceCtorEq, web_wE, web_pE, webD_inj]
  refine ⟨fun i τ => ∃ c3, τ = [.dat (.lst (sgs ss)), .dat (.int m), .dat (.tup ts), c3] ∧ ∀ k t, k < i → ts[k]? = some t → isBetw 0 ((ss.length : Int) - 1) t = true, ⟨_, rfl, fun k t h => absurd h (Nat.not_lt_zero _)⟩, ?_, ?_⟩
  · rintro i x τ2 hi ⟨c3, rfl, hk⟩
    have mi := List.mem_of_getElem? hi
    have okx := ht x mi
    have bad : isBetw 0 ((ss.length : Int) - 1) x = false → E.rt (.bl false) [.dat (.lst (sgs ss)), .dat (.int m), .dat (.tup ts), .dat x] := fun h => hr _ ⟨x, mi, h⟩
    have good : isBetw 0 ((ss.length : Int) - 1) x = true → ∀ k t, k < i + 1 → ts[k]? = some t → isBetw 0 ((ss.length : Int) - 1) t = true := fun h k t hk2 ek => by
      by_cases e : k = i
      · subst e
        rw [hi] at ek
        cases ek
        exact h
      · exact hk k t (by omega) ek
    simp only [fs__law_integer, seqD_l, wAsg2, wTold2, wEnumB, wListOfOwn, wRetOwnG, dcOf, wIsiT, offE, D.adr.injEq, Cont.pool.injEq, ixN31, ne_eq, List.map_cons, List.map_nil, wRaise0, wRaise1, wFrz, wEnumT, wDict0, wDict1, numD3, Nat.reduceAdd, atI0, atI1, atI2, atI3, atI4, ixN51, ixN52, ixN53, List.length_map, scal, V.int.injEq, V.str.injEq, V.bl.injEq, wSq, wNext, wBreak, wDrop, wRet, wIfS, wAsg, wPar, wLstOwn, wAppend, wSetOwn, wIxOwn, wPeek, wRetFr, wFor, wB, wNot, wAnd, wOr, wAndV, wOrV, wNotV, wChain, wNil, wCons, wCB, wTup, wLst, wNoPart, wPart, wSlT, wSeq, wRng1, wRng2, wZip, wName, wNilT, wConsT, wTupT, wYes, wNeg, wVar, wC, wOp, wcNil, wcCons, wcOwn, wCall, wCallOwn, slots, cellsOf, OwnArgs, putBack, g2I, g2IC, gLen, gAbs, gGcd, gInt1, gTupleOf, gListOf, gIx, gCatT, gCat, gEq, gNe, gIsN, gNotN, scD, seqD_t, seqD_l, seqD_f, isNonD, List.nodup_cons, List.mem_cons, List.not_mem_nil, or_false, not_false_eq_true, Nat.reduceEqDiff, L3.Keeps, ends, wipeD, List.replicate, List.cons_append, List.nil_append, List.append_nil, List.getElem?_cons_zero, List.getElem?_cons_succ, List.set_cons_zero, List.set_cons_succ, List.getD_cons_zero, List.getD_cons_succ, List.length_cons, List.length_nil, List.nodup_nil, Option.some.injEq, Cell.dat.injEq, Cell.own.injEq, Cont.lst.injEq, D.bl.injEq, D.int.injEq, D.str.injEq, D.tup.injEq, D.lst.injEq, Arg.d.injEq, List.cons.injEq, exists_and_left, exists_and_right, exists_eq_left', exists_eq_left, exists_eq_right, exists_eq_right', exists_eq, exists_eq', and_true, true_and, and_assoc, and_self, exists_const, reduceCtorEq, web_wE, web_pE, webD_inj]
    refine ⟨okx, fun z => ?_, fun z => ⟨fun _ => bad ?_, fun f => f.elim⟩⟩
    · obtain ⟨v, rfl⟩ : ∃ v, x = .int v := by
        cases x <;> simp [isIntD] at z
        exact ⟨_, rfl⟩
      refine ⟨v, rfl, fun z2 => ⟨v, rfl, fun z3 => bad ?_, fun z3 => good ?_⟩, fun z2 => ⟨fun _ => bad ?_, fun f => f.elim⟩⟩
      all_goals
        simp [isBetw] at *
        omega
    · cases x <;> simp [isIntD] at z <;> rfl
  · rintro τ2 ⟨c3, rfl, hk⟩
    refine hn _ fun t ht2 => ?_
    obtain ⟨k, ek⟩ := List.getElem?_of_mem ht2
    exact hk k t (List.getElem?_eq_some_iff.mp ek).1 ek
end
section
variable {ss : List Sg} {m : D} {is : List Nat} {c3 : Cell} {q : D → List Cell → Prop} {e : Xn → List Cell → Prop}
theorem c2__law_due_ok (hl : is.length ≤ 2) (hi : ∀ i ∈ is, i < ss.length) (hq : ∀ c3, q (.lst (sgs (pkS ss is))) [.dat (.lst (sgs ss)), .dat m, .dat (.tup (is.map fun i => .int (i : Nat))), c3]) :
    c2__law_due K [.dat (.lst (sgs ss)), .dat m, .dat (.tup (is.map fun i => .int (i : Nat))), c3] q e := by
  unfold c2__law_due wLc
  simp only [seqD_l, seqD_t, wAsg2, wTold2, wEnumB, wListOfOwn, wRetOwnG, dcOf, wIsiT, offE, D.adr.injEq, Cont.pool.injEq, ixN31, ne_eq, List.map_cons, List.map_nil, wRaise0, wRaise1, wFrz, wEnumT, wDict0, wDict1, numD3, Nat.reduceAdd, atI0, atI1, atI2, atI3, atI4, ixN51, ixN52, ixN53, List.length_map, scal, V.int.injEq, V.str.injEq, V.bl.injEq, wSq, wNext, wBreak, wDrop, wRet, wIfS, wAsg, wPar, wLstOwn, wAppend, wSetOwn, wIxOwn, wPeek, wRetFr, wFor, wB, wNot, wAnd, wOr, wAndV, wOrV, wNotV, wChain, wNil, wCons, wCB, wTup, wLst, wNoPart, wPart, wSlT, wSeq, wRng1, wRng2, wZip, wName, wNilT, wConsT, wTupT, wYes, wNeg, wVar, wC, wOp, wcNil, wcCons, wcOwn, wCall, wCallOwn, slots, cellsOf, OwnArgs, putBack, g2I, g2IC, gLen, gAbs, gGcd, gInt1, gTupleOf, gListOf, gIx, gCatT, gCat, gEq, gNe, gIsN, gNotN, scD, seqD_t, seqD_l, seqD_f, isNonD, List.nodup_cons, List.mem_cons, List.not_mem_nil, or_false, not_false_eq_true, Nat.reduceEqDiff, L3.Keeps, ends, wipeD, List.replicate, List.cons_append, List.nil_append, List.append_nil, List.getElem?_cons_zero, List.getElem?_cons_succ, List.set_cons_zero, List.set_cons_succ, List.getD_cons_zero, List.getD_cons_succ, List.length_cons, List.length_nil, List.nodup_nil, Option.some.injEq, Cell.dat.injEq, Cell.own.injEq, Cont.lst.injEq, D.bl.injEq, D.int.injEq, D.str.injEq, D.tup.injEq, D.lst.injEq, Arg.d.injEq, List.cons.injEq, exists_and_left, exists_and_right, exists_eq_left', exists_eq_left, exists_eq_right, exists_eq_right', exists_eq, exists_eq', and_true, true_and, and_assoc, and_self, exists_const, reduceCtorEq, web_wE, web_pE, webD_inj]
  refine ⟨by omega, fun i acc τ => τ = [.dat (.lst (sgs ss)), .dat m, .dat (.tup (is.map fun i => .int (i : Nat))), .any] ∧ acc = sgs (pkS ss (is.take i)), ⟨rfl, rfl⟩, ?_, ?_⟩
  · rintro i x acc τ2 hx ⟨rfl, rfl⟩ -
    rw [List.getElem?_map] at hx
    obtain ⟨k, ek, rfl⟩ := Option.map_eq_some_iff.mp hx
    have kl := hi k (List.mem_of_getElem? ek)
    have es : ss[k]? = some ss[k] := List.getElem?_eq_getElem kl
    have ak : atI (sgs ss) ((k : Nat) : Int) = some (sgT ss[k]) := atI_nat' (by rw [List.getElem?_map, es]; rfl)
    simp only [seqD_l, ak, wAsg2, wTold2, wEnumB, wListOfOwn, wRetOwnG, dcOf, wIsiT, offE, D.adr.injEq, Cont.pool.injEq, ixN31, ne_eq, List.map_cons, List.map_nil, wRaise0, wRaise1, wFrz, wEnumT, wDict0, wDict1, numD3, Nat.reduceAdd, atI0, atI1, atI2, atI3, atI4, ixN51, ixN52, ixN53, List.length_map, scal, V.int.injEq, V.str.injEq, V.bl.injEq, wSq, wNext, wBreak, wDrop, wRet, wIfS, wAsg, wPar, wLstOwn, wAppend, wSetOwn, wIxOwn, wPeek, wRetFr, wFor, wB, wNot, wAnd, wOr, wAndV, wOrV, wNotV, wChain, wNil, wCons, wCB, wTup, wLst, wNoPart, wPart, wSlT, wSeq, wRng1, wRng2, wZip, wName, wNilT, wConsT, wTupT, wYes, wNeg, wVar, wC, wOp, wcNil, wcCons, wcOwn, wCall, wCallOwn, slots, cellsOf, OwnArgs, putBack, g2I, g2IC, gLen, gAbs, gGcd, gInt1, gTupleOf, gListOf, gIx, gCatT, gCat, gEq, gNe, gIsN, gNotN, scD, seqD_t, seqD_l, seqD_f, isNonD, List.nodup_cons, List.mem_cons, List.not_mem_nil, or_false, not_false_eq_true, Nat.reduceEqDiff, L3.Keeps, ends, wipeD, List.replicate, List.cons_append, List.nil_append, List.append_nil, List.getElem?_cons_zero, List.getElem?_cons_succ, List.set_cons_zero, List.set_cons_succ, List.getD_cons_zero, List.getD_cons_succ, List.length_cons, List.length_nil, List.nodup_nil, Option.some.injEq, Cell.dat.injEq, Cell.own.injEq, Cont.lst.injEq, D.bl.injEq, D.int.injEq, D.str.injEq, D.tup.injEq, D.lst.injEq, Arg.d.injEq, List.cons.injEq, exists_and_left, exists_and_right, exists_eq_left', exists_eq_left, exists_eq_right, exists_eq_right', exists_eq, exists_eq', and_true, true_and, and_assoc, and_self, exists_const, reduceCtorEq, web_wE, web_pE, webD_inj]
    refine ⟨fun _ => ?_, fun z => z.elim⟩
    rw [pk_snoc ek es]
    simp [sgs]
  · rintro acc τ2 ⟨h1, h2⟩ -
    rw [h1, h2]
    have : is.take is.length = is := List.take_length
    rw [this]
    exact hq _
end
theorem pk_len {ss : List Sg} {is : List Nat} : (pkS ss is).length ≤ is.length := List.length_filterMap_le _ _
theorem pure__law_due : PureD 3 1 (fs__law_due K) (w__law_due K) := by
  rintro cs q e - ⟨ss, m, th, rfl, hl, ok, ht, hq⟩
  have notT : (∀ ts, th = .tup ts → ¬ (ts.length = 1 ∨ ts.length = 2)) → ¬ ∃ is, ThV ss.length th is ∧ ¬ SomP m (pkS ss is) := fun h ⟨is, hv, _⟩ => h _ hv.1 (by rw [List.length_map]; exact hv.2.1)
  simp only [w__law_due, gIsi_iff ht (show "tuple" ∈ kinds by simp), wAsg2, wTold2, wEnumB, wListOfOwn, wRetOwnG, dcOf, wIsiT, offE, D.adr.injEq, Cont.pool.injEq, ixN31, ne_eq, List.map_cons, List.map_nil, wRaise0, wRaise1, wFrz, wEnumT, wDict0, wDict1, numD3, Nat.reduceAdd, atI0, atI1, atI2, atI3, atI4, ixN51, ixN52, ixN53, List.length_map, scal, V.int.injEq, V.str.injEq, V.bl.injEq, wSq, wNext, wBreak, wDrop, wRet, wIfS, wAsg, wPar, wLstOwn, wAppend, wSetOwn, wIxOwn, wPeek, wRetFr, wFor, wB, wNot, wAnd, wOr, wAndV, wOrV, wNotV, wChain, wNil, wCons, wCB, wTup, wLst, wNoPart, wPart, wSlT, wSeq, wRng1, wRng2, wZip, wName, wNilT, wConsT, wTupT, wYes, wNeg, wVar, wC, wOp, wcNil, wcCons, wcOwn, wCall, wCallOwn, slots, cellsOf, OwnArgs, putBack, g2I, g2IC, gLen, gAbs, gGcd, gInt1, gTupleOf, gListOf, gIx, gCatT, gCat, gEq, gNe, gIsN, gNotN, scD, seqD_t, seqD_l, seqD_f, isNonD, List.nodup_cons, List.mem_cons, List.not_mem_nil, or_false, not_false_eq_true, Nat.reduceEqDiff, L3.Keeps, ends, wipeD, List.replicate, List.cons_append, List.nil_append, List.append_nil, List.getElem?_cons_zero, List.getElem?_cons_succ, List.set_cons_zero, List.set_cons_succ, List.getD_cons_zero, List.getD_cons_succ, List.length_cons, List.length_nil, List.nodup_nil, Option.some.injEq, Cell.dat.injEq, Cell.own.injEq, Cont.lst.injEq, D.bl.injEq, D.int.injEq, D.str.injEq, D.tup.injEq, D.lst.injEq, Arg.d.injEq, List.cons.injEq, exists_and_left, exists_and_right, exists_eq_left', exists_eq_left, exists_eq_right, exists_eq_right', exists_eq, exists_eq', and_true, true_and, and_assoc, and_self, exists_const, reduceCtorEq, web_wE, web_pE, webD_inj]
  by_cases hT : ∃ ts, th = .tup ts
  · obtain ⟨ts, rfl⟩ := hT
    refine ⟨fun z => ⟨ts, rfl, fun z1 => ⟨ts, rfl, fun z2 => ?_, fun z2 => ?_⟩, fun z1 => ⟨fun _ => ?_, fun f => f.elim⟩⟩, fun z => (nomatch z)⟩
    · have z2 := of_decide_eq_true z2
      exact hq false ⟨fun y => (nomatch y), fun y => (notT (fun ts' e h => by cases e; omega) y).elim⟩
    · have z1 := of_decide_eq_false z1
      have z2 := of_decide_eq_false z2
      refine l1__law_due_ok (okT ht rfl) (fun c3 hall => ?_) fun c3 ⟨t, mt, hb⟩ => ?_
      · obtain ⟨is, rfl, hi⟩ := betw_nat hall
        rw [List.length_map] at z1 z2
        have pl : (pkS ss is).length ≤ 1000 := by have := pk_len (ss := ss) (is := is); omega
        have fin : is.Nodup → ∀ b : Bool, (b = true ↔ ¬ SomP m (pkS ss is)) → q (.bl b) [.dat (.lst (sgs ss)), .dat (.int m), .dat (.tup (is.map fun i => .int (i : Nat)))] := fun nd b hb => hq b ⟨fun y => ⟨is, ⟨rfl, by omega, hi, nd⟩, hb.mp y⟩, fun ⟨is', hv', hC'⟩ => hb.mpr (by rw [thV_eq ⟨rfl, by omega, hi, nd⟩ hv']; exact hC')⟩
        have nb : ∀ b : Bool, (b = true ↔ SomP m (pkS ss is)) → ((!b) = true ↔ ¬ SomP m (pkS ss is)) := fun b hb => by
          rw [← hb]
          cases b <;> simp
        simp only [fs__law_some_list, seqD_t, List.length_map, wAsg2, wTold2, wEnumB, wListOfOwn, wRetOwnG, dcOf, wIsiT, offE, D.adr.injEq, Cont.pool.injEq, ixN31, ne_eq, List.map_cons, List.map_nil, wRaise0, wRaise1, wFrz, wEnumT, wDict0, wDict1, numD3, Nat.reduceAdd, atI0, atI1, atI2, atI3, atI4, ixN51, ixN52, ixN53, List.length_map, scal, V.int.injEq, V.str.injEq, V.bl.injEq, wSq, wNext, wBreak, wDrop, wRet, wIfS, wAsg, wPar, wLstOwn, wAppend, wSetOwn, wIxOwn, wPeek, wRetFr, wFor, wB, wNot, wAnd, wOr, wAndV, wOrV, wNotV, wChain, wNil, wCons, wCB, wTup, wLst, wNoPart, wPart, wSlT, wSeq, wRng1, wRng2, wZip, wName, wNilT, wConsT, wTupT, wYes, wNeg, wVar, wC, wOp, wcNil, wcCons, wcOwn, wCall, wCallOwn, slots, cellsOf, OwnArgs, putBack, g2I, g2IC, gLen, gAbs, gGcd, gInt1, gTupleOf, gListOf, gIx, gCatT, gCat, gEq, gNe, gIsN, gNotN, scD, seqD_t, seqD_l, seqD_f, isNonD, List.nodup_cons, List.mem_cons, List.not_mem_nil, or_false, not_false_eq_true, Nat.reduceEqDiff, L3.Keeps, ends, wipeD, List.replicate, List.cons_append, List.nil_append, List.append_nil, List.getElem?_cons_zero, List.getElem?_cons_succ, List.set_cons_zero, List.set_cons_succ, List.getD_cons_zero, List.getD_cons_succ, List.length_cons, List.length_nil, List.nodup_nil, Option.some.injEq, Cell.dat.injEq, Cell.own.injEq, Cont.lst.injEq, D.bl.injEq, D.int.injEq, D.str.injEq, D.tup.injEq, D.lst.injEq, Arg.d.injEq, List.cons.injEq, exists_and_left, exists_and_right, exists_eq_left', exists_eq_left, exists_eq_right, exists_eq_right', exists_eq, exists_eq', and_true, true_and, and_assoc, and_self, exists_const, reduceCtorEq, web_wE, web_pE, webD_inj]
        refine ⟨fun z => ?_, fun z => ⟨fun f => f.elim, fun _ => ?_⟩⟩
        · have z : is.length = 2 := by have := of_decide_eq_true z; omega
          match is, z with
          | [i, j], _ =>
            refine ⟨_, rfl, _, rfl, gEqD_int ⟨_, rfl, fun z => ?_, fun z => ?_⟩⟩
            · have z : (i : Int) = (j : Int) := of_decide_eq_true z
              refine hq false ⟨fun y => (nomatch y), fun ⟨is', hv', _⟩ => ?_⟩
              obtain ⟨e1, _, _, nd⟩ := hv'
              injection e1 with e1
              have e1 := ints_inj e1
              subst e1
              simp at nd
              omega
            have z : ¬ (i : Int) = (j : Int) := of_decide_eq_false z
            refine c2__law_due_ok (by simp) hi fun c4 => ?_
            simp only [wAsg2, wTold2, wEnumB, wListOfOwn, wRetOwnG, dcOf, wIsiT, offE, D.adr.injEq, Cont.pool.injEq, ixN31, ne_eq, List.map_cons, List.map_nil, wRaise0, wRaise1, wFrz, wEnumT, wDict0, wDict1, numD3, Nat.reduceAdd, atI0, atI1, atI2, atI3, atI4, ixN51, ixN52, ixN53, List.length_map, scal, V.int.injEq, V.str.injEq, V.bl.injEq, wSq, wNext, wBreak, wDrop, wRet, wIfS, wAsg, wPar, wLstOwn, wAppend, wSetOwn, wIxOwn, wPeek, wRetFr, wFor, wB, wNot, wAnd, wOr, wAndV, wOrV, wNotV, wChain, wNil, wCons, wCB, wTup, wLst, wNoPart, wPart, wSlT, wSeq, wRng1, wRng2, wZip, wName, wNilT, wConsT, wTupT, wYes, wNeg, wVar, wC, wOp, wcNil, wcCons, wcOwn, wCall, wCallOwn, slots, cellsOf, OwnArgs, putBack, g2I, g2IC, gLen, gAbs, gGcd, gInt1, gTupleOf, gListOf, gIx, gCatT, gCat, gEq, gNe, gIsN, gNotN, scD, seqD_t, seqD_l, seqD_f, isNonD, List.nodup_cons, List.mem_cons, List.not_mem_nil, or_false, not_false_eq_true, Nat.reduceEqDiff, L3.Keeps, ends, wipeD, List.replicate, List.cons_append, List.nil_append, List.append_nil, List.getElem?_cons_zero, List.getElem?_cons_succ, List.set_cons_zero, List.set_cons_succ, List.getD_cons_zero, List.getD_cons_succ, List.length_cons, List.length_nil, List.nodup_nil, Option.some.injEq, Cell.dat.injEq, Cell.own.injEq, Cont.lst.injEq, D.bl.injEq, D.int.injEq, D.str.injEq, D.tup.injEq, D.lst.injEq, Arg.d.injEq, List.cons.injEq, exists_and_left, exists_and_right, exists_eq_left', exists_eq_left, exists_eq_right, exists_eq_right', exists_eq, exists_eq', and_true, true_and, and_assoc, and_self, exists_const, reduceCtorEq, web_wE, web_pE, webD_inj]
            exact ⟨pkS ss [i, j], rfl, pl, pk_ok ok, fun b hb => fin (by simp; omega) (!b) (nb b hb)⟩
        · have z : is.length = 1 := by have := of_decide_eq_false z; omega
          match is, z with
          | [i], _ =>
            refine c2__law_due_ok (by simp) hi fun c4 => ?_
            simp only [wAsg2, wTold2, wEnumB, wListOfOwn, wRetOwnG, dcOf, wIsiT, offE, D.adr.injEq, Cont.pool.injEq, ixN31, ne_eq, List.map_cons, List.map_nil, wRaise0, wRaise1, wFrz, wEnumT, wDict0, wDict1, numD3, Nat.reduceAdd, atI0, atI1, atI2, atI3, atI4, ixN51, ixN52, ixN53, List.length_map, scal, V.int.injEq, V.str.injEq, V.bl.injEq, wSq, wNext, wBreak, wDrop, wRet, wIfS, wAsg, wPar, wLstOwn, wAppend, wSetOwn, wIxOwn, wPeek, wRetFr, wFor, wB, wNot, wAnd, wOr, wAndV, wOrV, wNotV, wChain, wNil, wCons, wCB, wTup, wLst, wNoPart, wPart, wSlT, wSeq, wRng1, wRng2, wZip, wName, wNilT, wConsT, wTupT, wYes, wNeg, wVar, wC, wOp, wcNil, wcCons, wcOwn, wCall, wCallOwn, slots, cellsOf, OwnArgs, putBack, g2I, g2IC, gLen, gAbs, gGcd, gInt1, gTupleOf, gListOf, gIx, gCatT, gCat, gEq, gNe, gIsN, gNotN, scD, seqD_t, seqD_l, seqD_f, isNonD, List.nodup_cons, List.mem_cons, List.not_mem_nil, or_false, not_false_eq_true, Nat.reduceEqDiff, L3.Keeps, ends, wipeD, List.replicate, List.cons_append, List.nil_append, List.append_nil, List.getElem?_cons_zero, List.getElem?_cons_succ, List.set_cons_zero, List.set_cons_succ, List.getD_cons_zero, List.getD_cons_succ, List.length_cons, List.length_nil, List.nodup_nil, Option.some.injEq, Cell.dat.injEq, Cell.own.injEq, Cont.lst.injEq, D.bl.injEq, D.int.injEq, D.str.injEq, D.tup.injEq, D.lst.injEq, Arg.d.injEq, List.cons.injEq, exists_and_left, exists_and_right, exists_eq_left', exists_eq_left, exists_eq_right, exists_eq_right', exists_eq, exists_eq', and_true, true_and, and_assoc, and_self, exists_const, reduceCtorEq, web_wE, web_pE, webD_inj]
            exact ⟨pkS ss [i], rfl, pl, pk_ok ok, fun b hb => fin (by simp) (!b) (nb b hb)⟩
      · simp only [wAsg2, wTold2, wEnumB, wListOfOwn, wRetOwnG, dcOf, wIsiT, offE, D.adr.injEq, Cont.pool.injEq, ixN31, ne_eq, List.map_cons, List.map_nil, wRaise0, wRaise1, wFrz, wEnumT, wDict0, wDict1, numD3, Nat.reduceAdd, atI0, atI1, atI2, atI3, atI4, ixN51, ixN52, ixN53, List.length_map, scal, V.int.injEq, V.str.injEq, V.bl.injEq, wSq, wNext, wBreak, wDrop, wRet, wIfS, wAsg, wPar, wLstOwn, wAppend, wSetOwn, wIxOwn, wPeek, wRetFr, wFor, wB, wNot, wAnd, wOr, wAndV, wOrV, wNotV, wChain, wNil, wCons, wCB, wTup, wLst, wNoPart, wPart, wSlT, wSeq, wRng1, wRng2, wZip, wName, wNilT, wConsT, wTupT, wYes, wNeg, wVar, wC, wOp, wcNil, wcCons, wcOwn, wCall, wCallOwn, slots, cellsOf, OwnArgs, putBack, g2I, g2IC, gLen, gAbs, gGcd, gInt1, gTupleOf, gListOf, gIx, gCatT, gCat, gEq, gNe, gIsN, gNotN, scD, seqD_t, seqD_l, seqD_f, isNonD, List.nodup_cons, List.mem_cons, List.not_mem_nil, or_false, not_false_eq_true, Nat.reduceEqDiff, L3.Keeps, ends, wipeD, List.replicate, List.cons_append, List.nil_append, List.append_nil, List.getElem?_cons_zero, List.getElem?_cons_succ, List.set_cons_zero, List.set_cons_succ, List.getD_cons_zero, List.getD_cons_succ, List.length_cons, List.length_nil, List.nodup_nil, Option.some.injEq, Cell.dat.injEq, Cell.own.injEq, Cont.lst.injEq, D.bl.injEq, D.int.injEq, D.str.injEq, D.tup.injEq, D.lst.injEq, Arg.d.injEq, List.cons.injEq, exists_and_left, exists_and_right, exists_eq_left', exists_eq_left, exists_eq_right, exists_eq_right', exists_eq, exists_eq', and_true, true_and, and_assoc, and_self, exists_const, reduceCtorEq, web_wE, web_pE, webD_inj]
        exact hq false ⟨fun y => (nomatch y), fun ⟨is, hv, _⟩ => by
          obtain ⟨_, ts', e1, h⟩ := thV_is hv
          cases e1
          rw [h t mt] at hb
          cases hb⟩
    · have z1 := of_decide_eq_true z1
      exact hq false ⟨fun y => (nomatch y), fun y => (notT (fun ts' e h => by cases e; omega) y).elim⟩
  · have hN : isiD th "tuple" = false := by
      cases th <;> first | rfl | exact absurd ⟨_, rfl⟩ hT
    rw [hN]
    refine ⟨fun z => (nomatch z), fun _ => ⟨fun _ => hq false ⟨fun y => (nomatch y), fun y => (notT (fun ts e => absurd ⟨ts, e⟩ hT) y).elim⟩, fun f => f.elim⟩⟩
theorem ok__law_due (T : Txt K mg) : FnOk P w K mg base (L2.CX P w) 4 T.f__law_due T.fd__law_due ["rows", "many", "thing"] (spOf K 3 (fs__law_due K)) := by
  refine def_ok T.F__law_due sc__law_due (wb := w__law_due K) pure__law_due ?_
  intro cdv A outer s H E hr tk
  exact ⟨_, (pss_cons (ps_if (PW.pt (pw_or (pt_not (pt_val (pe_callB call_isi (by rfl) T.z_isinstance (by decide +kernel) (pa_cons (pv 2) (pa_cons (pe_bltn (v := .ty "tuple") (by rfl) T.z_tuple (by decide +kernel) rfl) pa_nil))))) (pw_or (pt_cmpR op_lt (pe_callB call_len_seq (by rfl) T.z_len (by decide +kernel) (pa_cons (pv 2) pa_nil)) pe_int (nomark _)) (pw_or1 (pt_cmpR op_gt (pe_callB call_len_seq (by rfl) T.z_len (by decide +kernel) (pa_cons (pv 2) pa_nil)) pe_int (nomark _))))))
        (pss_one (ps_ret pe_bl))
        pss_nil)
      (pss_cons (ps_for (passes_of rfl) rfl (pi_seq (pv 2)) (pg_name (i := 3) sc__law_due.nd rfl (by first | exact Or.inl rfl | exact Or.inr rfl))
        (pss_one (ps_if (PW.pt (pw_or (pt_not (pt_val (pe_callS (ok__law_integer T) (hr.mono (by decide)) rfl T.g__law_integer T.k__law_integer T.b__law_integer (fun σ => passAt tk σ) (pa_cons (pv 3) pa_nil)))) (pw_or (pt_cmpR op_lt (pv 3) pe_int (nomark _)) (pw_or1 (pt_cmpR op_ge (pv 3) (pe_callB call_len_seq (by rfl) T.z_len (by decide +kernel) (pa_cons (pv 0) pa_nil)) (nomark _))))))
        (pss_one (ps_ret pe_bl))
        pss_nil)))
      (pss_cons (ps_if (PW.pt (pw_and (pt_cmpR op_eq (pe_callB call_len_seq (by rfl) T.z_len (by decide +kernel) (pa_cons (pv 2) pa_nil)) pe_int (nomark _)) (pw_and1 (pt_cmpR (op_eqD hr.units) (pe_ix ix_seq (pv 2) pe_int (fun _ _ => rfl)) (pe_ix ix_seq (pv 2) pe_int (fun _ _ => rfl)) (nomark _)))))
        (pss_one (ps_ret pe_bl))
        pss_nil)
      (pss_one (ps_ret (pe_not (pe_callS (ok__law_some_list T) (hr.mono (by decide)) rfl T.g__law_some_list T.k__law_some_list T.b__law_some_list (fun σ => passAt tk σ) (pa_cons (pe_lc (own := [("index", 3)]) (g := (gName 3)) (tt := tYes) (te := (tOp (rIx K) (tVar 0) (tVar 3))) rfl sc__law_due.nd (pi_seq (pv 2)) (blkOk_by (N := ["rows", "many", "thing", "index"]) (sc := defScope s__law_due) (by decide +kernel)) (fun _ _ _ _ _ => (pg_name (i := 3) sc__law_due.nd rfl (by first | exact Or.inl rfl | exact Or.inr rfl))) (fun _ _ _ _ _ => pts_nil) (fun _ _ _ _ _ => (pe_ix ix_seq (pv 0) (pv 3) (fun _ _ => rfl)))) (pa_cons (pv 1) pa_nil))))))))),
    (ds_seq (ds_if (dt_or (dt_not (dt_B (de_cb o_isi (da_cons (de_var 2) (da_cons de_ty da_nil))))) (dt_or (dt_B (de_op o_lt (de_cb o_len (da_cons (de_var 2) da_nil)) de_int)) (dt_B (de_op o_gt (de_cb o_len (da_cons (de_var 2) da_nil)) de_int)))) (ds_ret de_bl) ds_nil)
      (ds_seq (ds_for (wI := (wSeq (wVar 2))) (wg := (wName 3)) (wb := (wIfS (wOr (wNot (wB (wCall 1 (fs__law_integer K) (wcCons (wVar 3) wcNil)))) (wOr (wB (wOp gLtI (wVar 3) (wC (.int 0)))) (wB (wOp gGeI (wVar 3) (wCB gLen (wCons (wVar 0) wNil)))))) (wRet (wC (.bl false))) wNext)) (di_seq (de_var 2)) (dg_name 3) (ds_if (dt_or (dt_not (dt_B (de_call (n := 1) (fs := fs__law_integer K) (dac_cons (de_var 3) dac_nil)))) (dt_or (dt_B (de_op o_lt (de_var 3) de_int)) (dt_B (de_op o_ge (de_var 3) (de_cb o_len (da_cons (de_var 0) da_nil)))))) (ds_ret de_bl) ds_nil))
      (ds_seq (ds_if (dt_and (dt_B (de_op o_eq (de_cb o_len (da_cons (de_var 2) da_nil)) de_int)) (dt_B (de_op o_eqD (de_op o_ix (de_var 2) de_int) (de_op o_ix (de_var 2) de_int)))) (ds_ret de_bl) ds_nil)
      (ds_ret (de_not (de_call (n := 2) (fs := fs__law_some_list K) (dac_cons (de_lc (vs := [3]) (wI := (wSeq (wVar 2))) (wg := (wName 3)) (wt := wYes) (we := (wOp gIx (wVar 0) (wVar 3))) (di_seq (de_var 2)) (dg_name 3) dt_yes (de_op o_ix (de_var 0) (de_var 3)) (by decide)) (dac_cons (de_var 1) dac_nil))))))))⟩
abbrev s__law_met : Stmt := topS 45
theorem sc__law_met : FnScope ["found", "due"] ["found", "due"] (defScope s__law_met) := ⟨rfl, rfl, rfl, by decide +kernel, rfl, by decide +kernel, by decide +kernel⟩
def w__law_met (K : PySem.W.Frag) : SW := (wSq (wIfS (wB (wOp gNeD (wOp gIx (wVar 0) (wC (.int 0))) (wOp gIx (wVar 1) (wC (.int 0))))) (wRet (wC (.bl false))) wNext)
  (wSq (wIfS (wAnd (wB (wOp gEq (wOp gIx (wVar 0) (wC (.int 0))) (wC (.str "refused")))) (wB (wOp gNeD (wOp gIx (wVar 0) (wC (.int 1))) (wOp gIx (wVar 1) (wC (.int 1)))))) (wRet (wC (.bl false))) wNext)
  (wRet (wCall 2 (fs__law_same K 6) (wcCons (wOp gIx (wVar 0) (wNeg (wC (.int 1)))) (wcCons (wOp gIx (wVar 1) (wNeg (wC (.int 1)))) wcNil))))))
def fs__law_met (K : PySem.W.Frag) : FS := fun cs q _ => ∃ d : D, cs = [.dat d, .dat d] ∧ ((∃ x : D, SameD SN x ∧ d = .tup [.str "told", x]) ∨ (∃ (a b : Bool) (y : D), SameD SN y ∧ d = .tup [.str "refused", .lst [.bl a, .bl b], y])) ∧ q (.bl true) cs
theorem pure__law_met : PureD 2 0 (fs__law_met K) (w__law_met K) := by
  rintro cs q e - ⟨d, rfl, (⟨x, hx, rfl⟩ | ⟨a, b, n, hn, rfl⟩), hq⟩
  · simp only [w__law_met, fs__law_same, atIm1_2, wAsg2, wTold2, wEnumB, wListOfOwn, wRetOwnG, dcOf, wIsiT, offE, D.adr.injEq, Cont.pool.injEq, ixN31, ne_eq, List.map_cons, List.map_nil, wRaise0, wRaise1, wFrz, wEnumT, wDict0, wDict1, numD3, Nat.reduceAdd, atI0, atI1, atI2, atI3, atI4, ixN51, ixN52, ixN53, List.length_map, scal, V.int.injEq, V.str.injEq, V.bl.injEq, wSq, wNext, wBreak, wDrop, wRet, wIfS, wAsg, wPar, wLstOwn, wAppend, wSetOwn, wIxOwn, wPeek, wRetFr, wFor, wB, wNot, wAnd, wOr, wAndV, wOrV, wNotV, wChain, wNil, wCons, wCB, wTup, wLst, wNoPart, wPart, wSlT, wSeq, wRng1, wRng2, wZip, wName, wNilT, wConsT, wTupT, wYes, wNeg, wVar, wC, wOp, wcNil, wcCons, wcOwn, wCall, wCallOwn, slots, cellsOf, OwnArgs, putBack, g2I, g2IC, gLen, gAbs, gGcd, gInt1, gTupleOf, gListOf, gIx, gCatT, gCat, gEq, gNe, gIsN, gNotN, scD, seqD_t, seqD_l, seqD_f, isNonD, List.nodup_cons, List.mem_cons, List.not_mem_nil, or_false, not_false_eq_true, Nat.reduceEqDiff, L3.Keeps, ends, wipeD, List.replicate, List.cons_append, List.nil_append, List.append_nil, List.getElem?_cons_zero, List.getElem?_cons_succ, List.set_cons_zero, List.set_cons_succ, List.getD_cons_zero, List.getD_cons_succ, List.length_cons, List.length_nil, List.nodup_nil, Option.some.injEq, Cell.dat.injEq, Cell.own.injEq, Cont.lst.injEq, D.bl.injEq, D.int.injEq, D.str.injEq, D.tup.injEq, D.lst.injEq, Arg.d.injEq, List.cons.injEq, exists_and_left, exists_and_right, exists_eq_left', exists_eq_left, exists_eq_right, exists_eq_right', exists_eq, exists_eq', and_true, true_and, and_assoc, and_self, exists_const, reduceCtorEq, web_wE, web_pE, webD_inj]
    refine gNeD_refl (p := .str "told") rfl (by decide +kernel) ?_
    have ne : ¬ (Str.ofString "told" = Str.ofString "refused") := by decide +kernel
    simp [ne]
    exact ⟨hx, hq⟩
  · simp only [w__law_met, fs__law_same, atIm1_3, wAsg2, wTold2, wEnumB, wListOfOwn, wRetOwnG, dcOf, wIsiT, offE, D.adr.injEq, Cont.pool.injEq, ixN31, ne_eq, List.map_cons, List.map_nil, wRaise0, wRaise1, wFrz, wEnumT, wDict0, wDict1, numD3, Nat.reduceAdd, atI0, atI1, atI2, atI3, atI4, ixN51, ixN52, ixN53, List.length_map, scal, V.int.injEq, V.str.injEq, V.bl.injEq, wSq, wNext, wBreak, wDrop, wRet, wIfS, wAsg, wPar, wLstOwn, wAppend, wSetOwn, wIxOwn, wPeek, wRetFr, wFor, wB, wNot, wAnd, wOr, wAndV, wOrV, wNotV, wChain, wNil, wCons, wCB, wTup, wLst, wNoPart, wPart, wSlT, wSeq, wRng1, wRng2, wZip, wName, wNilT, wConsT, wTupT, wYes, wNeg, wVar, wC, wOp, wcNil, wcCons, wcOwn, wCall, wCallOwn, slots, cellsOf, OwnArgs, putBack, g2I, g2IC, gLen, gAbs, gGcd, gInt1, gTupleOf, gListOf, gIx, gCatT, gCat, gEq, gNe, gIsN, gNotN, scD, seqD_t, seqD_l, seqD_f, isNonD, List.nodup_cons, List.mem_cons, List.not_mem_nil, or_false, not_false_eq_true, Nat.reduceEqDiff, L3.Keeps, ends, wipeD, List.replicate, List.cons_append, List.nil_append, List.append_nil, List.getElem?_cons_zero, List.getElem?_cons_succ, List.set_cons_zero, List.set_cons_succ, List.getD_cons_zero, List.getD_cons_succ, List.length_cons, List.length_nil, List.nodup_nil, Option.some.injEq, Cell.dat.injEq, Cell.own.injEq, Cont.lst.injEq, D.bl.injEq, D.int.injEq, D.str.injEq, D.tup.injEq, D.lst.injEq, Arg.d.injEq, List.cons.injEq, exists_and_left, exists_and_right, exists_eq_left', exists_eq_left, exists_eq_right, exists_eq_right', exists_eq, exists_eq', and_true, true_and, and_assoc, and_self, exists_const, reduceCtorEq, web_wE, web_pE, webD_inj]
    refine gNeD_refl (p := .str "refused") rfl (by decide +kernel) ?_
    simp
    refine gNeD_refl (p := .list [.bool a, .bool b]) rfl (by cases a <;> cases b <;> decide +kernel) ?_
    exact .inl ⟨rfl, hn, hq⟩
theorem ok__law_met (T : Txt K mg) : FnOk P w K mg base (L2.CX P w) 7 T.f__law_met T.fd__law_met ["found", "due"] (spOf K 2 (fs__law_met K)) := by
  refine def_ok T.F__law_met sc__law_met (wb := w__law_met K) pure__law_met ?_
  intro cdv A outer s H E hr tk
  exact ⟨_, (pss_cons (ps_if (pt_cmpR (op_neD hr.units) (pe_ix ix_seq (pv 0) pe_int (fun _ _ => rfl)) (pe_ix ix_seq (pv 1) pe_int (fun _ _ => rfl)) (nomark _))
        (pss_one (ps_ret pe_bl))
        pss_nil)
      (pss_cons (ps_if (PW.pt (pw_and (pt_cmpR op_eq (pe_ix ix_seq (pv 0) pe_int (fun _ _ => rfl)) pe_str (nomark _)) (pw_and1 (pt_cmpR (op_neD hr.units) (pe_ix ix_seq (pv 0) pe_int (fun _ _ => rfl)) (pe_ix ix_seq (pv 1) pe_int (fun _ _ => rfl)) (nomark _)))))
        (pss_one (ps_ret pe_bl))
        pss_nil)
      (pss_one (ps_ret (pe_callS (ok__law_same T 6) (hr.mono (by decide)) rfl T.g__law_same T.k__law_same T.b__law_same (fun σ => passAt tk σ) (pa_cons (pe_ix ix_seq (pv 0) (pe_un un_neg pe_int) (fun _ _ => rfl)) (pa_cons (pe_ix ix_seq (pv 1) (pe_un un_neg pe_int) (fun _ _ => rfl)) pa_nil))))))),
    (ds_seq (ds_if (dt_B (de_op o_neD (de_op o_ix (de_var 0) de_int) (de_op o_ix (de_var 1) de_int))) (ds_ret de_bl) ds_nil)
      (ds_seq (ds_if (dt_and (dt_B (de_op o_eq (de_op o_ix (de_var 0) de_int) de_str)) (dt_B (de_op o_neD (de_op o_ix (de_var 0) de_int) (de_op o_ix (de_var 1) de_int)))) (ds_ret de_bl) ds_nil)
      (ds_ret (de_call (n := 2) (fs := (fs__law_same K 6)) (dac_cons (de_op o_ix (de_var 0) (de_neg de_int)) (dac_cons (de_op o_ix (de_var 1) (de_neg de_int)) dac_nil))))))⟩
abbrev s__law_told : Stmt := topS 58
theorem sc__law_told : FnScope ["action", "found", "e"] ["action"] (defScope s__law_told) := ⟨rfl, rfl, rfl, by decide +kernel, rfl, by decide +kernel, by decide +kernel⟩
/-- what is asked of an own error that is caught -/
structure TellF (K : PySem.W.Frag) (Z : CT) (C : Addr) (b1 b2 : Bool) : Prop where
  ex : ExcC K C
  m : PySem.W.exmOne K (.ref C) (.ref Z.C_TidesError) = some true
  k1 : PySem.W.kitOne K (.ref C) (.ref Z.C_NoSights) = some b1
  k2 : PySem.W.kitOne K (.ref C) (.ref Z.C_NoNumber) = some b2
def tellC (K : PySem.W.Frag) (Z : CT) : Addr → List D → Prop := fun C ds => ∃ b1 b2 : Bool, ds = [.bl b1, .bl b2] ∧ TellF K Z C b1 b2
def suiteT (K : PySem.W.Frag) (Z : CT) (a : Addr) (cls : Value) (d : Option Addr) : TS := fun D σ H => ∃ C : Addr, (cls = .ref C ∧ ExcC K C) ∧ (σ.length = 3 → tAsg (tTup (tCons (tC (.str "refused")) (tCons (tLst (tCons (tCB (rIsE2 K C a d) (tCons (tVar 2) (tCons (tC (.ref Z.C_NoSights)) tNil))) (tCons (tCB (rIsE2 K C a d) (tCons (tVar 2) (tCons (tC (.ref Z.C_NoNumber)) tNil))) tNil))) (tCons (tC (.int 0)) tNil)))) (gName 1) D σ H)
theorem told_gives {X : Cx} (T : Txt X.K X.mg) {g : Addr} {cdg : Value} {q : Str} : LamX.GivesTo X ["action", "found", "e"] "_law_told" (defScope s__law_told) g cdg (defBody s__law_told) "action" q (toldTT2 X.K (tellC X.K T.Z)) := by
  intro f c' s H Q tl hact hc hTT
  have nd : (["action", "found", "e"] : List Str).Nodup := by decide +kernel
  refine ⟨_, pss_cons (ps_try_as (i := 2) (ts := suiteT X.K T.Z) rfl rfl nd rfl rfl ⟨rfl, by decide, .inl T.gc_TidesError⟩ L2.takes0 (fun W pn xe tk po => pss_one (ps_set (i := 1) nd rfl (by first | exact Or.inl rfl | exact Or.inr rfl) (pe_tup (pa_cons pe_str (pa_cons (hact W pn xe (fun cls d H' => ∀ σ', W cls d σ' H') _ _ tk fun cls d σ' H' h => h σ') pa_nil)))))
    (fun a oe cls d pn hz hf => ?_)) (pss_one (ps_ret (pv 1))), ?_⟩
  · refine pss_ex (P := fun C : Addr => cls = .ref C ∧ ExcC X.K C) fun C hP => ?_
    obtain ⟨rfl, hx⟩ := hP
    exact pss_one (ps_set (i := 1) nd rfl (by first | exact Or.inl rfl | exact Or.inr rfl) (pe_tup (pa_cons pe_str (pa_cons (pe_lst (pa_cons (pe_callB (call_isE3 hx hz hf) (by rfl) T.z_isinstance (by decide +kernel) (pa_cons (pv 2) (pa_cons (pe_glob (v := .ref _) rfl T.gx_NoSights rfl) pa_nil)))
      (pa_cons (pe_callB (call_isE3 hx hz hf) (by rfl) T.z_isinstance (by decide +kernel) (pa_cons (pv 2) (pa_cons (pe_glob (v := .ref _) rfl T.x_NoNumber.gC rfl) pa_nil)))
      pa_nil))) (pa_cons pe_int pa_nil)))))
  · refine ⟨rfl, hc, hTT _ _ (fun cls d H' hE σ' => ?_) (fun v H' hq => ?_)⟩
    · obtain ⟨C, bs, rfl, hd, ⟨b1, b2, eb, tf⟩, hq⟩ := hE
      refine ⟨true, tf.m, fun _ a ha => ⟨C, ⟨rfl, tf.ex⟩, fun hl => ?_⟩, fun z => nomatch z⟩
      have hl' : σ'.length = 3 := by simpa using hl
      have eb' : bs = [b1, b2] := by
        match bs, eb with
        | [], eb => simp at eb
        | [x0], eb => simp at eb
        | [x0, x1], eb => simpa using eb
        | x0 :: x1 :: y :: r, eb => simp at eb
      subst eb'
      match σ', hl' with
      | [x, y, z], _ =>
        rcases hd with rfl | ⟨dd, vs, rfl, hdd⟩
        · refine ⟨.ref a, rfl, .inl ⟨rfl, ⟨.ref T.Z.C_NoSights, .ref T.Z.C_NoSights, b1, rfl, fun u hu => hu, tf.k1, ⟨.ref a, rfl, .inl ⟨rfl, ⟨.ref T.Z.C_NoNumber, .ref T.Z.C_NoNumber, b2, rfl, fun u hu => hu, tf.k2, ?_⟩⟩⟩⟩⟩⟩
          exact ⟨(show (2 : Nat) ≤ sizeLine by decide), fun l hll => ⟨(show (3 : Nat) ≤ sizeLine by decide), fun p hp => ⟨.ref p, rfl, hq l p hll hp⟩⟩⟩
        · refine ⟨.ref a, rfl, .inr ⟨.ref T.Z.C_NoSights, .ref T.Z.C_NoSights, b1, dd, vs, rfl, fun u hu => hu, tf.k1, rfl, hdd, ⟨.ref a, rfl, .inr ⟨.ref T.Z.C_NoNumber, .ref T.Z.C_NoNumber, b2, dd, vs, rfl, fun u hu => hu, tf.k2, rfl, hdd, ?_⟩⟩⟩⟩
          exact ⟨(show (2 : Nat) ≤ sizeLine by decide), fun l hll => ⟨(show (3 : Nat) ≤ sizeLine by decide), fun p hp => ⟨.ref p, rfl, hq l p hll hp⟩⟩⟩
    · exact ⟨(show (2 : Nat) ≤ sizeLine by decide), fun p hp => ⟨.ref p, rfl, hq p hp⟩⟩
theorem told_gives' (T : Txt K mg) {X : Cx} (hK : X.K = K) (hm : X.mg = mg) {g : Addr} {cdg : Value} {q : Str} : LamX.GivesTo X ["action", "found", "e"] "_law_told" (defScope s__law_told) g cdg (defBody s__law_told) "action" q (toldTT2 X.K (tellC K T.Z)) := by
  subst hK
  subst hm
  exact told_gives T
/-- what the law asks of the errors and of the class -/
structure LawF (K : PySem.W.Frag) (Z : CT) : Prop where
  e_NoSights : TellF K Z Z.C_NoSights true false
  e_NoNumber : TellF K Z Z.C_NoNumber false true
  w : OkD K (.oth (.ref Z.C_Web))
abbrev s_law : Stmt := topS 61
theorem sc_law : FnScope ["script", "source", "kind", "steps", "many", "rows", "turn", "place", "things", "bad", "wrong", "handed", "thing"] ["script"] (defScope s_law) := ⟨rfl, rfl, rfl, by decide +kernel, rfl, by decide +kernel, by decide +kernel⟩
def l1_law (K : PySem.W.Frag) (Z : CT) : SW := wFor (wRng1 (wCons (wCall 2 (fs__law_draw K) (wcOwn 1 (wcCons (wC (.int 4)) wcNil))) wNil)) (wName 6) (wSq (wAsg (wCall 2 (fs__law_draw K) (wcOwn 1 (wcCons (wPeek 5 (fun es q => q (.int es.length))) wcNil))) (wName 7))
  (wSetOwn 5 (wTup (wCons (wOp gIx (wIxOwn 5 (wVar 7)) (wC (.int 0))) (wCons (wCall 2 (fs__law_pick K) (wcOwn 1 (wcCons (wLst (wCons (wOp gAddI (wOp gIx (wIxOwn 5 (wVar 7)) (wC (.int 1))) (wC (.int 1))) (wCons (wOp gSubI (wOp gIx (wIxOwn 5 (wVar 7)) (wC (.int 1))) (wC (.int 1))) (wCons (wNeg (wOp gIx (wIxOwn 5 (wVar 7)) (wC (.int 1)))) (wCons (wC (.int 7)) (wCons (wNeg (wC (.int 2))) wNil)))))) wcNil))) wNil))) (wVar 7)))
def l2_law (K : PySem.W.Frag) (Z : CT) : SW := wFor (wSeq (wVar 8)) (wName 12) (wIfS (wNot (wB (wCall 2 (fs__law_met K) (wcCons (wTold2 (tellC K Z) (wCall 3 (fs_is_clash K Z) (wcCons (wVar 11) (wcCons (wVar 4) (wcCons (wVar 12) wcNil))))) (wcCons (wTup (wCons (wC (.str "told")) (wCons (wCall 3 (fs__law_due K) (wcCons (wEor (wFrz 5) (wVar 5)) (wcCons (wVar 4) (wcCons (wVar 12) wcNil)))) wNil))) wcNil))))) (wRet (wC (.bl false))) wNext)
def t12_law (K : PySem.W.Frag) (Z : CT) : SW := (wSq (l2_law K Z)
  (wRet (wC (.bl true))))
def t10_law (K : PySem.W.Frag) (Z : CT) : SW := (wSq (wAsg (wEor (wFrz 5) (wVar 5)) (wName 11))
  (wSq (wIfS (wB (wOp gEq (wOp gModI (wCB gInt1 (wCons (wVar 2) wNil)) (wC (.int 2))) (wC (.int 0)))) (wAsg (wEor (wPeek 5 (fun es q => q (.tup es))) (wCB gTupleOf (wCons (wVar 5) wNil))) (wName 11)) wNext)
  (t12_law K Z)))
def t9_law (K : PySem.W.Frag) (Z : CT) : SW := (wSq (wIfS (wB (wOp gEq (wVar 2) (wC (.int 1)))) (wSq (wAsg (wCall 2 (fs__law_pick K) (wcOwn 1 (wcCons (wLst (wCons (wC (.int 0)) (wCons (wC (.int 7)) (wCons (wC .non) (wCons (wC (.bl true)) (wCons (wC (.str "1")) (wCons (wNeg (wC (.int 1))) (wCons (wTup (wCons (wC (.int 1)) wNil)) wNil)))))))) wcNil))) (wName 10))
  (wRet (wCall 2 (fs__law_met K) (wcCons (wTold2 (tellC K Z) (wCall 3 (fs_is_clash K Z) (wcCons (wEor (wFrz 5) (wVar 5)) (wcCons (wVar 10) (wcCons (wOp gIx (wVar 8) (wNeg (wC (.int 1)))) wcNil))))) (wcCons (wTup (wCons (wC (.str "refused")) (wCons (wLst (wCons (wC (.bl false)) (wCons (wC (.bl true)) wNil))) (wCons (wC (.int 0)) wNil)))) wcNil))))) wNext)
  (t10_law K Z))
def t8_law (K : PySem.W.Frag) (Z : CT) : SW := (wSq (wIfS (wB (wOp gEq (wVar 2) (wC (.int 0)))) (wSq (wAsg (wCall 2 (fs__law_draw K) (wcOwn 1 (wcCons (wPeek 5 (fun es q => q (.int es.length))) wcNil))) (wName 7))
  (wSq (wListOfOwn 9 5)
  (wSq (wSetOwn 9 (wTup (wCons (wOp gIx (wIxOwn 5 (wVar 7)) (wC (.int 0))) (wCons (wC .non) wNil))) (wVar 7))
  (wSq (wIfS (wB (wOp gEq (wCall 2 (fs__law_draw K) (wcOwn 1 (wcCons (wC (.int 2)) wcNil))) (wC (.int 0)))) (wSetOwn 9 (wOp gCatT (wIxOwn 5 (wVar 7)) (wTup (wCons (wC (.int 0)) wNil))) (wVar 7)) wNext)
  (wRet (wCall 2 (fs__law_met K) (wcCons (wTold2 (tellC K Z) (wCall 3 (fs_is_clash K Z) (wcCons (wFrz 9) (wcCons (wVar 4) (wcCons (wOp gIx (wVar 8) (wC (.int 0))) wcNil))))) (wcCons (wTup (wCons (wC (.str "refused")) (wCons (wLst (wCons (wC (.bl true)) (wCons (wC (.bl false)) wNil))) (wCons (wC (.int 0)) wNil)))) wcNil)))))))) wNext)
  (t9_law K Z))
def t7_law (K : PySem.W.Frag) (Z : CT) : SW := (wSq (wAsg (wCall 2 (fs__law_things K Z) (wcOwn 1 (wcCons (wPeek 5 (fun es q => q (.int es.length))) wcNil))) (wName 8))
  (t8_law K Z))
def t5_law (K : PySem.W.Frag) (Z : CT) : SW := (wSq (wCallOwn 5 3 (fs__law_sights K) (wcOwn 1 (wcCons (wVar 3) (wcCons (wOp gAddI (wC (.int 1)) (wCall 2 (fs__law_draw K) (wcOwn 1 (wcCons (wC (.int 12)) wcNil)))) wcNil))))
  (wSq (l1_law K Z)
  (t7_law K Z)))
def w_law (K : PySem.W.Frag) (Z : CT) : SW := (wSq (wCallOwn 1 1 (fs__law_source K) (wcCons (wVar 0) wcNil))
  (wSq (wAsg (wCall 2 (fs__law_draw K) (wcOwn 1 (wcCons (wC (.int 9)) wcNil))) (wName 2))
  (wSq (wAsg (wCall 3 (fs__law_steps K) (wcOwn 1 (wcCons (wC (.int 6)) (wcCons (wC (.bl true)) wcNil)))) (wName 3))
  (wSq (wAsg (wCB gLen (wCons (wVar 3) wNil)) (wName 4))
  (wSq (wIfS (wB (wOp gEq (wCall 2 (fs__law_draw K) (wcOwn 1 (wcCons (wC (.int 5)) wcNil))) (wC (.int 0)))) (wAsg (wOp gAddI (wC (.int 1)) (wCall 2 (fs__law_draw K) (wcOwn 1 (wcCons (wC (.int 6)) wcNil)))) (wName 4)) wNext)
  (t5_law K Z))))))
abbrev lamQ : Str := (envOfC "law" (defScope s_law) 0 0 .none).qual ++ Str.ofString "<lambda>"
def fs_law (K : PySem.W.Frag) (Z : CT) : FS := fun cs q _ => ∃ (ns : List Int), cs = [.dat (.fl (ns.map D.int))] ∧ ns.length ≤ 1000 ∧ LawF K Z ∧ q (.bl true) cs
def SgB (n : Nat) (ss : List Sg) : Prop := ∀ s ∈ ss, SgOk s ∧ s.2.2.natAbs < n
theorem sgb_set {n : Nat} {ss : List Sg} {j : Nat} {x : Sg} {r : Int} (h : SgB n ss) (hx : x ∈ ss) (hr : r.natAbs < n + 1) (hn : n ≤ 100) : SgB (n + 1) (ss.set j (x.1, x.2.1, r)) := fun s hs => by
  rcases List.mem_or_eq_of_mem_set hs with hs | rfl
  · exact ⟨(h s hs).1, by have := (h s hs).2; omega⟩
  · obtain ⟨a, b, c, _⟩ := (h x hx).1
    exact ⟨⟨a, b, c, Nat.lt_of_lt_of_le hr (Nat.le_trans (show n + 1 ≤ 101 by omega) (by decide))⟩, hr⟩
section
variable {Z : CT} {p1 p5 : Addr} {ss : List Sg} {E : EndsD} {c0 c2 c3 c4 c5 c6 c7 c8 c9 c10 c11 c12 : Cell}
theorem l1_law_ok {c : Cont} (hc : SrcC c) (h1 : 1 ≤ ss.length) (h12 : ss.length ≤ 12) (ok : SgB 7 ss)
    (hn : ∀ c' ss' c6 c7, SrcC c' → ss'.length = ss.length → (∀ s ∈ ss', SgOk s) → E.nx [c0, .own p1 c', c2, c3, c4, .own p5 (.lst (sgs ss')), c6, c7, c8, c9, c10, c11, c12]) :
    l1_law K Z E [c0, .own p1 c, c2, c3, c4, .own p5 (.lst (sgs ss)), c6, c7, c8, c9, c10, c11, c12] := by
  unfold l1_law wFor
  simp only [fs__law_draw, wAsg2, wTold2, wEnumB, wListOfOwn, wRetOwnG, dcOf, wIsiT, offE, D.adr.injEq, Cont.pool.injEq, ixN31, ne_eq, List.map_cons, List.map_nil, wRaise0, wRaise1, wFrz, wEnumT, wDict0, wDict1, numD3, Nat.reduceAdd, atI0, atI1, atI2, atI3, atI4, ixN51, ixN52, ixN53, List.length_map, scal, V.int.injEq, V.str.injEq, V.bl.injEq, wSq, wNext, wBreak, wDrop, wRet, wIfS, wAsg, wPar, wLstOwn, wAppend, wSetOwn, wIxOwn, wPeek, wRetFr, wFor, wB, wNot, wAnd, wOr, wAndV, wOrV, wNotV, wChain, wNil, wCons, wCB, wTup, wLst, wNoPart, wPart, wSlT, wSeq, wRng1, wRng2, wZip, wName, wNilT, wConsT, wTupT, wYes, wNeg, wVar, wC, wOp, wcNil, wcCons, wcOwn, wCall, wCallOwn, slots, cellsOf, OwnArgs, putBack, g2I, g2IC, gLen, gAbs, gGcd, gInt1, gTupleOf, gListOf, gIx, gCatT, gCat, gEq, gNe, gIsN, gNotN, scD, seqD_t, seqD_l, seqD_f, isNonD, List.nodup_cons, List.mem_cons, List.not_mem_nil, or_false, not_false_eq_true, Nat.reduceEqDiff, L3.Keeps, ends, wipeD, List.replicate, List.cons_append, List.nil_append, List.append_nil, List.getElem?_cons_zero, List.getElem?_cons_succ, List.set_cons_zero, List.set_cons_succ, List.getD_cons_zero, List.getD_cons_succ, List.length_cons, List.length_nil, List.nodup_nil, Option.some.injEq, Cell.dat.injEq, Cell.own.injEq, Cont.lst.injEq, D.bl.injEq, D.int.injEq, D.str.injEq, D.tup.injEq, D.lst.injEq, Arg.d.injEq, List.cons.injEq, exists_and_left, exists_and_right, exists_eq_left', exists_eq_left, exists_eq_right, exists_eq_right', exists_eq, exists_eq', and_true, true_and, and_assoc, and_self, exists_const, reduceCtorEq, web_wE, web_pE, webD_inj]
  refine ⟨hc, by decide, by decide, fun c1 n hc1 n0 n1 => ⟨by omega, by omega, fun i τ => ∃ c' ss' c6 c7, τ = [c0, .own p1 c', c2, c3, c4, .own p5 (.lst (sgs ss')), c6, c7, c8, c9, c10, c11, c12] ∧ SrcC c' ∧ ss'.length = ss.length ∧ SgB (7 + i) ss', ⟨c1, ss, _, _, rfl, hc1, rfl, ok⟩, ?_, ?_⟩⟩
  · rintro i d τ2 hi ⟨c', ss', c6, c7, rfl, hc', hl, hk⟩
    have hlt := (List.getElem?_eq_some_iff.mp hi).1
    rw [rangeD_length] at hlt
    simp only [fs__law_draw, fs__law_pick, wAsg2, wTold2, wEnumB, wListOfOwn, wRetOwnG, dcOf, wIsiT, offE, D.adr.injEq, Cont.pool.injEq, ixN31, ne_eq, List.map_cons, List.map_nil, wRaise0, wRaise1, wFrz, wEnumT, wDict0, wDict1, numD3, Nat.reduceAdd, atI0, atI1, atI2, atI3, atI4, ixN51, ixN52, ixN53, List.length_map, scal, V.int.injEq, V.str.injEq, V.bl.injEq, wSq, wNext, wBreak, wDrop, wRet, wIfS, wAsg, wPar, wLstOwn, wAppend, wSetOwn, wIxOwn, wPeek, wRetFr, wFor, wB, wNot, wAnd, wOr, wAndV, wOrV, wNotV, wChain, wNil, wCons, wCB, wTup, wLst, wNoPart, wPart, wSlT, wSeq, wRng1, wRng2, wZip, wName, wNilT, wConsT, wTupT, wYes, wNeg, wVar, wC, wOp, wcNil, wcCons, wcOwn, wCall, wCallOwn, slots, cellsOf, OwnArgs, putBack, g2I, g2IC, gLen, gAbs, gGcd, gInt1, gTupleOf, gListOf, gIx, gCatT, gCat, gEq, gNe, gIsN, gNotN, scD, seqD_t, seqD_l, seqD_f, isNonD, List.nodup_cons, List.mem_cons, List.not_mem_nil, or_false, not_false_eq_true, Nat.reduceEqDiff, L3.Keeps, ends, wipeD, List.replicate, List.cons_append, List.nil_append, List.append_nil, List.getElem?_cons_zero, List.getElem?_cons_succ, List.set_cons_zero, List.set_cons_succ, List.getD_cons_zero, List.getD_cons_succ, List.length_cons, List.length_nil, List.nodup_nil, Option.some.injEq, Cell.dat.injEq, Cell.own.injEq, Cont.lst.injEq, D.bl.injEq, D.int.injEq, D.str.injEq, D.tup.injEq, D.lst.injEq, Arg.d.injEq, List.cons.injEq, exists_and_left, exists_and_right, exists_eq_left', exists_eq_left, exists_eq_right, exists_eq_right', exists_eq, exists_eq', and_true, true_and, and_assoc, and_self, exists_const, reduceCtorEq, web_wE, web_pE, webD_inj]
    refine ⟨hc', by omega, by omega, fun c2' v hc2 v0 v1 => ?_⟩
    obtain ⟨j, rfl⟩ := Int.eq_ofNat_of_zero_le v0
    have jl : j < ss'.length := by omega
    have ej : ss'[j]? = some ss'[j] := List.getElem?_eq_getElem jl
    have aj : atI (sgs ss') ((j : Nat) : Int) = some (sgT ss'[j]) := atI_nat' (by rw [List.getElem?_map, ej]; rfl)
    have mj := List.mem_of_getElem? ej
    simp only [aj, seqD_t, atI0, atI1, wAsg2, wTold2, wEnumB, wListOfOwn, wRetOwnG, dcOf, wIsiT, offE, D.adr.injEq, Cont.pool.injEq, ixN31, ne_eq, List.map_cons, List.map_nil, wRaise0, wRaise1, wFrz, wEnumT, wDict0, wDict1, numD3, Nat.reduceAdd, atI0, atI1, atI2, atI3, atI4, ixN51, ixN52, ixN53, List.length_map, scal, V.int.injEq, V.str.injEq, V.bl.injEq, wSq, wNext, wBreak, wDrop, wRet, wIfS, wAsg, wPar, wLstOwn, wAppend, wSetOwn, wIxOwn, wPeek, wRetFr, wFor, wB, wNot, wAnd, wOr, wAndV, wOrV, wNotV, wChain, wNil, wCons, wCB, wTup, wLst, wNoPart, wPart, wSlT, wSeq, wRng1, wRng2, wZip, wName, wNilT, wConsT, wTupT, wYes, wNeg, wVar, wC, wOp, wcNil, wcCons, wcOwn, wCall, wCallOwn, slots, cellsOf, OwnArgs, putBack, g2I, g2IC, gLen, gAbs, gGcd, gInt1, gTupleOf, gListOf, gIx, gCatT, gCat, gEq, gNe, gIsN, gNotN, scD, seqD_t, seqD_l, seqD_f, isNonD, List.nodup_cons, List.mem_cons, List.not_mem_nil, or_false, not_false_eq_true, Nat.reduceEqDiff, L3.Keeps, ends, wipeD, List.replicate, List.cons_append, List.nil_append, List.append_nil, List.getElem?_cons_zero, List.getElem?_cons_succ, List.set_cons_zero, List.set_cons_succ, List.getD_cons_zero, List.getD_cons_succ, List.length_cons, List.length_nil, List.nodup_nil, Option.some.injEq, Cell.dat.injEq, Cell.own.injEq, Cont.lst.injEq, D.bl.injEq, D.int.injEq, D.str.injEq, D.tup.injEq, D.lst.injEq, Arg.d.injEq, List.cons.injEq, exists_and_left, exists_and_right, exists_eq_left', exists_eq_left, exists_eq_right, exists_eq_right', exists_eq, exists_eq', and_true, true_and, and_assoc, and_self, exists_const, reduceCtorEq, web_wE, web_pE, webD_inj]
    refine ⟨by decide, hc2, by decide, by decide, fun c3' x hc3 hx => ⟨by decide, j, ixN_ltN jl, ?_⟩⟩
    have bj := (hk _ mj).2
    obtain ⟨r, rfl, hr⟩ : ∃ r : Int, x = .int r ∧ r.natAbs < 7 + i + 1 := by
      rcases hx with rfl | rfl | rfl | rfl | rfl <;> exact ⟨_, rfl, by omega⟩
    exact ⟨ss'.set j (ss'[j].1, ss'[j].2.1, r), by simp [sgs, List.map_set], hc3, by rw [List.length_set]; exact hl, sgb_set (n := 7 + i) hk mj hr (by omega)⟩
  · rintro τ2 ⟨c', ss', c6, c7, rfl, hc', hl, hk⟩
    exact hn c' ss' c6 c7 hc' hl fun s hs => (hk s hs).1
theorem betw_mk {l h i : Int} (h1 : l ≤ i) (h2 : i ≤ h) : isBetw l h (.int i) = true := by
  simp [isBetw]
  omega
theorem sgs_is {ss : List Sg} (ok : ∀ s ∈ ss, SgOk s) : ∀ x ∈ sgs ss, isSg x = true := fun x hx => by
  obtain ⟨s, hs, rfl⟩ := List.mem_map.mp hx
  exact sg_is (ok s hs)
theorem sgT_okd {s : Sg} : OkD K (sgT s) := by simp [sgT, OkD, OkDs]
theorem sgs_okd {ss : List Sg} : ∀ x ∈ sgs ss, OkD K x := fun x hx => by
  obtain ⟨s, hs, rfl⟩ := List.mem_map.mp hx
  exact sgT_okd
variable {ts : List D} {m k : Int}
theorem l2_law_ok {d : D} {c : Cell} (L : LawF K Z) (hd : ToldD d (sgs ss)) (h1 : 1 ≤ ss.length) (h12 : ss.length ≤ 12) (ok : ∀ s ∈ ss, SgOk s) (m1 : 1 ≤ m) (m6 : m ≤ 6) (ht : ∀ x ∈ ts, OkD K x) (hl : ts.length ≤ 100)
    (hn : ∀ c12, E.nx [c0, c, c2, c3, .dat (.int m), .dat (.lst (sgs ss)), c6, c7, .dat (.lst ts), c9, c10, .dat d, c12]) :
    l2_law K Z E [c0, c, c2, c3, .dat (.int m), .dat (.lst (sgs ss)), c6, c7, .dat (.lst ts), c9, c10, .dat d, c12] := by
  unfold l2_law wFor
  simp only [seqD_l, wAsg2, wTold2, wEnumB, wListOfOwn, wRetOwnG, dcOf, wIsiT, offE, D.adr.injEq, Cont.pool.injEq, ixN31, ne_eq, List.map_cons, List.map_nil, wRaise0, wRaise1, wFrz, wEnumT, wDict0, wDict1, numD3, Nat.reduceAdd, atI0, atI1, atI2, atI3, atI4, ixN51, ixN52, ixN53, List.length_map, scal, V.int.injEq, V.str.injEq, V.bl.injEq, wSq, wNext, wBreak, wDrop, wRet, wIfS, wAsg, wPar, wLstOwn, wAppend, wSetOwn, wIxOwn, wPeek, wRetFr, wFor, wB, wNot, wAnd, wOr, wAndV, wOrV, wNotV, wChain, wNil, wCons, wCB, wTup, wLst, wNoPart, wPart, wSlT, wSeq, wRng1, wRng2, wZip, wName, wNilT, wConsT, wTupT, wYes, wNeg, wVar, wC, wOp, wcNil, wcCons, wcOwn, wCall, wCallOwn, slots, cellsOf, OwnArgs, putBack, g2I, g2IC, gLen, gAbs, gGcd, gInt1, gTupleOf, gListOf, gIx, gCatT, gCat, gEq, gNe, gIsN, gNotN, scD, seqD_t, seqD_l, seqD_f, isNonD, List.nodup_cons, List.mem_cons, List.not_mem_nil, or_false, not_false_eq_true, Nat.reduceEqDiff, L3.Keeps, ends, wipeD, List.replicate, List.cons_append, List.nil_append, List.append_nil, List.getElem?_cons_zero, List.getElem?_cons_succ, List.set_cons_zero, List.set_cons_succ, List.getD_cons_zero, List.getD_cons_succ, List.length_cons, List.length_nil, List.nodup_nil, Option.some.injEq, Cell.dat.injEq, Cell.own.injEq, Cont.lst.injEq, D.bl.injEq, D.int.injEq, D.str.injEq, D.tup.injEq, D.lst.injEq, Arg.d.injEq, List.cons.injEq, exists_and_left, exists_and_right, exists_eq_left', exists_eq_left, exists_eq_right, exists_eq_right', exists_eq, exists_eq', and_true, true_and, and_assoc, and_self, exists_const, reduceCtorEq, web_wE, web_pE, webD_inj]
  refine ⟨fun i τ => ∃ c12, τ = [c0, c, c2, c3, .dat (.int m), .dat (.lst (sgs ss)), c6, c7, .dat (.lst ts), c9, c10, .dat d, c12], ⟨_, rfl⟩, ?_, ?_⟩
  · rintro i x τ2 hi ⟨c12, rfl⟩
    have mx := List.mem_of_getElem? hi
    simp only [fs__law_met, fs_is_clash, fs__law_due, wEor, false_and, exists_false, false_or, wAsg2, wTold2, wEnumB, wListOfOwn, wRetOwnG, dcOf, wIsiT, offE, D.adr.injEq, Cont.pool.injEq, ixN31, ne_eq, List.map_cons, List.map_nil, wRaise0, wRaise1, wFrz, wEnumT, wDict0, wDict1, numD3, Nat.reduceAdd, atI0, atI1, atI2, atI3, atI4, ixN51, ixN52, ixN53, List.length_map, scal, V.int.injEq, V.str.injEq, V.bl.injEq, wSq, wNext, wBreak, wDrop, wRet, wIfS, wAsg, wPar, wLstOwn, wAppend, wSetOwn, wIxOwn, wPeek, wRetFr, wFor, wB, wNot, wAnd, wOr, wAndV, wOrV, wNotV, wChain, wNil, wCons, wCB, wTup, wLst, wNoPart, wPart, wSlT, wSeq, wRng1, wRng2, wZip, wName, wNilT, wConsT, wTupT, wYes, wNeg, wVar, wC, wOp, wcNil, wcCons, wcOwn, wCall, wCallOwn, slots, cellsOf, OwnArgs, putBack, g2I, g2IC, gLen, gAbs, gGcd, gInt1, gTupleOf, gListOf, gIx, gCatT, gCat, gEq, gNe, gIsN, gNotN, scD, seqD_t, seqD_l, seqD_f, isNonD, List.nodup_cons, List.mem_cons, List.not_mem_nil, or_false, not_false_eq_true, Nat.reduceEqDiff, L3.Keeps, ends, wipeD, List.replicate, List.cons_append, List.nil_append, List.append_nil, List.getElem?_cons_zero, List.getElem?_cons_succ, List.set_cons_zero, List.set_cons_succ, List.getD_cons_zero, List.getD_cons_succ, List.length_cons, List.length_nil, List.nodup_nil, Option.some.injEq, Cell.dat.injEq, Cell.own.injEq, Cont.lst.injEq, D.bl.injEq, D.int.injEq, D.str.injEq, D.tup.injEq, D.lst.injEq, Arg.d.injEq, List.cons.injEq, exists_and_left, exists_and_right, exists_eq_left', exists_eq_left, exists_eq_right, exists_eq_right', exists_eq, exists_eq', and_true, true_and, and_assoc, and_self, exists_const, reduceCtorEq, web_wE, web_pE, webD_inj]
    refine ⟨sgs ss, hd, by rw [List.length_map]; omega, by rw [List.length_map]; omega, sgs_okd, by simp [OkD], ht x mx, fun i hi2 ⟨y, hy, hf⟩ => ?_, fun _ hb => ?_, fun _ _ => ⟨ss, rfl, ok, fun b hb => ⟨ss, rfl, by omega, ok, ht x mx, fun b2 hb2 => ?_⟩⟩⟩
    · rw [sgs_is ok y hy] at hf
      cases hf
    · rw [betw_mk m1 m6] at hb
      cases hb
    have eb : b2 = b := by
      have h : b = true ↔ b2 = true := by
        rw [hb, hb2]
        exact exists_congr fun is => and_congr_right fun _ => clash_som
      cases b <;> cases b2 <;> simp at h <;> rfl
    exact ⟨by decide, eb, .inl (show SameD 6 (.bl b) from trivial), fun z => (nomatch z), fun _ => trivial⟩
  · rintro τ2 ⟨c12, rfl⟩
    exact hn _
theorem t12_law_ok {d : D} {c : Cell} (L : LawF K Z) (hd : ToldD d (sgs ss)) (h1 : 1 ≤ ss.length) (h12 : ss.length ≤ 12) (ok : ∀ s ∈ ss, SgOk s) (m1 : 1 ≤ m) (m6 : m ≤ 6) (ht : ∀ x ∈ ts, OkD K x) (hl : ts.length ≤ 100)
    (hr : ∀ c1 c2 c3 c4 c5 c6 c7 c8 c9 c10 c11 c12, E.rt (.bl true) [c0, c1, c2, c3, c4, c5, c6, c7, c8, c9, c10, c11, c12]) :
    t12_law K Z E [c0, c, c2, c3, .dat (.int m), .dat (.lst (sgs ss)), c6, c7, .dat (.lst ts), c9, c10, .dat d, c12] := by
  unfold t12_law wSq
  refine l2_law_ok L hd h1 h12 ok m1 m6 ht hl fun c12 => ?_
  simp only [wAsg2, wTold2, wEnumB, wListOfOwn, wRetOwnG, dcOf, wIsiT, offE, D.adr.injEq, Cont.pool.injEq, ixN31, ne_eq, List.map_cons, List.map_nil, wRaise0, wRaise1, wFrz, wEnumT, wDict0, wDict1, numD3, Nat.reduceAdd, atI0, atI1, atI2, atI3, atI4, ixN51, ixN52, ixN53, List.length_map, scal, V.int.injEq, V.str.injEq, V.bl.injEq, wSq, wNext, wBreak, wDrop, wRet, wIfS, wAsg, wPar, wLstOwn, wAppend, wSetOwn, wIxOwn, wPeek, wRetFr, wFor, wB, wNot, wAnd, wOr, wAndV, wOrV, wNotV, wChain, wNil, wCons, wCB, wTup, wLst, wNoPart, wPart, wSlT, wSeq, wRng1, wRng2, wZip, wName, wNilT, wConsT, wTupT, wYes, wNeg, wVar, wC, wOp, wcNil, wcCons, wcOwn, wCall, wCallOwn, slots, cellsOf, OwnArgs, putBack, g2I, g2IC, gLen, gAbs, gGcd, gInt1, gTupleOf, gListOf, gIx, gCatT, gCat, gEq, gNe, gIsN, gNotN, scD, seqD_t, seqD_l, seqD_f, isNonD, List.nodup_cons, List.mem_cons, List.not_mem_nil, or_false, not_false_eq_true, Nat.reduceEqDiff, L3.Keeps, ends, wipeD, List.replicate, List.cons_append, List.nil_append, List.append_nil, List.getElem?_cons_zero, List.getElem?_cons_succ, List.set_cons_zero, List.set_cons_succ, List.getD_cons_zero, List.getD_cons_succ, List.length_cons, List.length_nil, List.nodup_nil, Option.some.injEq, Cell.dat.injEq, Cell.own.injEq, Cont.lst.injEq, D.bl.injEq, D.int.injEq, D.str.injEq, D.tup.injEq, D.lst.injEq, Arg.d.injEq, List.cons.injEq, exists_and_left, exists_and_right, exists_eq_left', exists_eq_left, exists_eq_right, exists_eq_right', exists_eq, exists_eq', and_true, true_and, and_assoc, and_self, exists_const, reduceCtorEq, web_wE, web_pE, webD_inj]
  exact hr _ _ _ _ _ _ _ _ _ _ _ _
theorem t10_law_ok {c : Cell} (L : LawF K Z) (h1 : 1 ≤ ss.length) (h12 : ss.length ≤ 12) (ok : ∀ s ∈ ss, SgOk s) (m1 : 1 ≤ m) (m6 : m ≤ 6) (ht : ∀ x ∈ ts, OkD K x) (hl : ts.length ≤ 100)
    (hr : ∀ c1 c2 c3 c4 c5 c6 c7 c8 c9 c10 c11 c12, E.rt (.bl true) [c0, c1, c2, c3, c4, c5, c6, c7, c8, c9, c10, c11, c12]) :
    t10_law K Z E [c0, c, .dat (.int k), c3, .dat (.int m), .own p5 (.lst (sgs ss)), c6, c7, .dat (.lst ts), c9, c10, c11, c12] := by
  simp only [t10_law, wEor, false_and, exists_false, false_or, wAsg2, wTold2, wEnumB, wListOfOwn, wRetOwnG, dcOf, wIsiT, offE, D.adr.injEq, Cont.pool.injEq, ixN31, ne_eq, List.map_cons, List.map_nil, wRaise0, wRaise1, wFrz, wEnumT, wDict0, wDict1, numD3, Nat.reduceAdd, atI0, atI1, atI2, atI3, atI4, ixN51, ixN52, ixN53, List.length_map, scal, V.int.injEq, V.str.injEq, V.bl.injEq, wSq, wNext, wBreak, wDrop, wRet, wIfS, wAsg, wPar, wLstOwn, wAppend, wSetOwn, wIxOwn, wPeek, wRetFr, wFor, wB, wNot, wAnd, wOr, wAndV, wOrV, wNotV, wChain, wNil, wCons, wCB, wTup, wLst, wNoPart, wPart, wSlT, wSeq, wRng1, wRng2, wZip, wName, wNilT, wConsT, wTupT, wYes, wNeg, wVar, wC, wOp, wcNil, wcCons, wcOwn, wCall, wCallOwn, slots, cellsOf, OwnArgs, putBack, g2I, g2IC, gLen, gAbs, gGcd, gInt1, gTupleOf, gListOf, gIx, gCatT, gCat, gEq, gNe, gIsN, gNotN, scD, seqD_t, seqD_l, seqD_f, isNonD, List.nodup_cons, List.mem_cons, List.not_mem_nil, or_false, not_false_eq_true, Nat.reduceEqDiff, L3.Keeps, ends, wipeD, List.replicate, List.cons_append, List.nil_append, List.append_nil, List.getElem?_cons_zero, List.getElem?_cons_succ, List.set_cons_zero, List.set_cons_succ, List.getD_cons_zero, List.getD_cons_succ, List.length_cons, List.length_nil, List.nodup_nil, Option.some.injEq, Cell.dat.injEq, Cell.own.injEq, Cont.lst.injEq, D.bl.injEq, D.int.injEq, D.str.injEq, D.tup.injEq, D.lst.injEq, Arg.d.injEq, List.cons.injEq, exists_and_left, exists_and_right, exists_eq_left', exists_eq_left, exists_eq_right, exists_eq_right', exists_eq, exists_eq', and_true, true_and, and_assoc, and_self, exists_const, reduceCtorEq, web_wE, web_pE, webD_inj]
  exact ⟨by decide, fun _ => t12_law_ok L (.inr rfl) h1 h12 ok m1 m6 ht hl hr, fun _ => t12_law_ok L (.inl rfl) h1 h12 ok m1 m6 ht hl hr⟩
theorem at_last {l : List D} (h : 1 ≤ l.length) : ∃ x, atI l (-1) = some x ∧ x ∈ l := by
  have e : l[l.length - 1]? = some l[l.length - 1] := List.getElem?_eq_getElem (by omega)
  refine ⟨l[l.length - 1], ?_, List.mem_of_getElem? e⟩
  unfold atI ixN
  rw [if_neg (by decide), if_pos (by omega)]
  show l[(-1 + (l.length : Int)).toNat]? = _
  rw [show (-1 + (l.length : Int)).toNat = l.length - 1 by omega]
  exact e
theorem t9_law_ok {c : Cont} (L : LawF K Z) (hc : SrcC c) (h1 : 1 ≤ ss.length) (h12 : ss.length ≤ 12) (ok : ∀ s ∈ ss, SgOk s) (m1 : 1 ≤ m) (m6 : m ≤ 6) (ht : ∀ x ∈ ts, OkD K x) (t1 : 1 ≤ ts.length) (hl : ts.length ≤ 100)
    (hr : ∀ c1 c2 c3 c4 c5 c6 c7 c8 c9 c10 c11 c12, E.rt (.bl true) [c0, c1, c2, c3, c4, c5, c6, c7, c8, c9, c10, c11, c12]) :
    t9_law K Z E [c0, .own p1 c, .dat (.int k), c3, .dat (.int m), .own p5 (.lst (sgs ss)), c6, c7, .dat (.lst ts), c9, c10, c11, c12] := by
  simp only [t9_law, fs__law_pick, fs__law_met, fs_is_clash, wEor, false_and, exists_false, false_or, wAsg2, wTold2, wEnumB, wListOfOwn, wRetOwnG, dcOf, wIsiT, offE, D.adr.injEq, Cont.pool.injEq, ixN31, ne_eq, List.map_cons, List.map_nil, wRaise0, wRaise1, wFrz, wEnumT, wDict0, wDict1, numD3, Nat.reduceAdd, atI0, atI1, atI2, atI3, atI4, ixN51, ixN52, ixN53, List.length_map, scal, V.int.injEq, V.str.injEq, V.bl.injEq, wSq, wNext, wBreak, wDrop, wRet, wIfS, wAsg, wPar, wLstOwn, wAppend, wSetOwn, wIxOwn, wPeek, wRetFr, wFor, wB, wNot, wAnd, wOr, wAndV, wOrV, wNotV, wChain, wNil, wCons, wCB, wTup, wLst, wNoPart, wPart, wSlT, wSeq, wRng1, wRng2, wZip, wName, wNilT, wConsT, wTupT, wYes, wNeg, wVar, wC, wOp, wcNil, wcCons, wcOwn, wCall, wCallOwn, slots, cellsOf, OwnArgs, putBack, g2I, g2IC, gLen, gAbs, gGcd, gInt1, gTupleOf, gListOf, gIx, gCatT, gCat, gEq, gNe, gIsN, gNotN, scD, seqD_t, seqD_l, seqD_f, isNonD, List.nodup_cons, List.mem_cons, List.not_mem_nil, or_false, not_false_eq_true, Nat.reduceEqDiff, L3.Keeps, ends, wipeD, List.replicate, List.cons_append, List.nil_append, List.append_nil, List.getElem?_cons_zero, List.getElem?_cons_succ, List.set_cons_zero, List.set_cons_succ, List.getD_cons_zero, List.getD_cons_succ, List.length_cons, List.length_nil, List.nodup_nil, Option.some.injEq, Cell.dat.injEq, Cell.own.injEq, Cont.lst.injEq, D.bl.injEq, D.int.injEq, D.str.injEq, D.tup.injEq, D.lst.injEq, Arg.d.injEq, List.cons.injEq, exists_and_left, exists_and_right, exists_eq_left', exists_eq_left, exists_eq_right, exists_eq_right', exists_eq, exists_eq', and_true, true_and, and_assoc, and_self, exists_const, reduceCtorEq, web_wE, web_pE, webD_inj]
  refine ⟨fun _ => ⟨by decide, by decide, hc, by decide, by decide, fun c' x hc' hx => ?_⟩, fun _ => t10_law_ok L h1 h12 ok m1 m6 ht hl hr⟩
  obtain ⟨y, ey, my⟩ := at_last t1
  have hx2 : OkD K x ∧ isBetw 1 6 x = false := by
    rcases hx with rfl | rfl | rfl | rfl | rfl | rfl | rfl <;> exact ⟨by simp [OkD, OkDs], rfl⟩
  refine ⟨y, ey, sgs ss, .inl rfl, by rw [List.length_map]; omega, by rw [List.length_map]; omega, sgs_okd, hx2.1, ht y my, fun i hi2 ⟨y, hy, hf⟩ => ?_, fun _ hb => ?_, fun _ hb => ?_⟩
  · rw [sgs_is ok y hy] at hf
    cases hf
  · exact ⟨[false, true], ⟨false, true, rfl, L.e_NoNumber⟩, by decide, by decide, rfl, .inr ⟨false, true, .int 0, (show SameD 6 (.int 0) from trivial), rfl, rfl⟩, hr _ _ _ _ _ _ _ _ _ _ _ _⟩
  · rw [hx2.2] at hb
    cases hb
theorem t8_law_ok {c : Cont} (L : LawF K Z) (hc : SrcC c) (h1 : 1 ≤ ss.length) (h12 : ss.length ≤ 12) (ok : ∀ s ∈ ss, SgOk s) (m1 : 1 ≤ m) (m6 : m ≤ 6) (ht : ∀ x ∈ ts, OkD K x) (t1 : 1 ≤ ts.length) (hl : ts.length ≤ 100)
    (hr : ∀ c1 c2 c3 c4 c5 c6 c7 c8 c9 c10 c11 c12, E.rt (.bl true) [c0, c1, c2, c3, c4, c5, c6, c7, c8, c9, c10, c11, c12]) :
    t8_law K Z E [c0, .own p1 c, .dat (.int k), c3, .dat (.int m), .own p5 (.lst (sgs ss)), c6, c7, .dat (.lst ts), c9, c10, c11, c12] := by
  have h9 : ∀ {c : Cont} {c7 c9}, SrcC c → t9_law K Z E [c0, .own p1 c, .dat (.int k), c3, .dat (.int m), .own p5 (.lst (sgs ss)), c6, c7, .dat (.lst ts), c9, c10, c11, c12] := fun hc => t9_law_ok L hc h1 h12 ok m1 m6 ht t1 hl hr
  simp only [t8_law, fs__law_draw, fs__law_met, fs_is_clash, wEor, false_and, exists_false, false_or, wAsg2, wTold2, wEnumB, wListOfOwn, wRetOwnG, dcOf, wIsiT, offE, D.adr.injEq, Cont.pool.injEq, ixN31, ne_eq, List.map_cons, List.map_nil, wRaise0, wRaise1, wFrz, wEnumT, wDict0, wDict1, numD3, Nat.reduceAdd, atI0, atI1, atI2, atI3, atI4, ixN51, ixN52, ixN53, List.length_map, scal, V.int.injEq, V.str.injEq, V.bl.injEq, wSq, wNext, wBreak, wDrop, wRet, wIfS, wAsg, wPar, wLstOwn, wAppend, wSetOwn, wIxOwn, wPeek, wRetFr, wFor, wB, wNot, wAnd, wOr, wAndV, wOrV, wNotV, wChain, wNil, wCons, wCB, wTup, wLst, wNoPart, wPart, wSlT, wSeq, wRng1, wRng2, wZip, wName, wNilT, wConsT, wTupT, wYes, wNeg, wVar, wC, wOp, wcNil, wcCons, wcOwn, wCall, wCallOwn, slots, cellsOf, OwnArgs, putBack, g2I, g2IC, gLen, gAbs, gGcd, gInt1, gTupleOf, gListOf, gIx, gCatT, gCat, gEq, gNe, gIsN, gNotN, scD, seqD_t, seqD_l, seqD_f, isNonD, List.nodup_cons, List.mem_cons, List.not_mem_nil, or_false, not_false_eq_true, Nat.reduceEqDiff, L3.Keeps, ends, wipeD, List.replicate, List.cons_append, List.nil_append, List.append_nil, List.getElem?_cons_zero, List.getElem?_cons_succ, List.set_cons_zero, List.set_cons_succ, List.getD_cons_zero, List.getD_cons_succ, List.length_cons, List.length_nil, List.nodup_nil, Option.some.injEq, Cell.dat.injEq, Cell.own.injEq, Cont.lst.injEq, D.bl.injEq, D.int.injEq, D.str.injEq, D.tup.injEq, D.lst.injEq, Arg.d.injEq, List.cons.injEq, exists_and_left, exists_and_right, exists_eq_left', exists_eq_left, exists_eq_right, exists_eq_right', exists_eq, exists_eq', and_true, true_and, and_assoc, and_self, exists_const, reduceCtorEq, web_wE, web_pE, webD_inj]
  refine ⟨fun z => ⟨hc, by omega, by omega, fun c' v hc' v0 v1 => ?_⟩, fun _ => h9 hc⟩
  obtain ⟨j, rfl⟩ := Int.eq_ofNat_of_zero_le v0
  have jl : j < ss.length := by omega
  have ej : ss[j]? = some ss[j] := List.getElem?_eq_getElem jl
  have aj : atI (sgs ss) ((j : Nat) : Int) = some (sgT ss[j]) := atI_nat' (by rw [List.getElem?_map, ej]; rfl)
  have xj : ixN ss.length ((j : Nat) : Int) = some j := ixN_ltN jl
  have t0 : ts[0]? = some ts[0] := List.getElem?_eq_getElem (by omega)
  have a0 : atI ts 0 = some ts[0] := atI_nat' t0
  have m0 := List.mem_of_getElem? t0
  have inS : ∀ y : D, y ∈ (sgs ss).set j y := fun y => List.mem_of_getElem? (List.getElem?_set_self (by rw [List.length_map]; exact jl))
  have okS : ∀ y : D, OkD K y → ∀ x ∈ (sgs ss).set j y, OkD K x := fun y hy x hx => by
    rcases List.mem_or_eq_of_mem_set hx with hx | rfl
    · exact sgs_okd x hx
    · exact hy
  simp only [aj, xj, a0, List.length_set, List.set_set, seqD_t, atI0, atI1, wAsg2, wTold2, wEnumB, wListOfOwn, wRetOwnG, dcOf, wIsiT, offE, D.adr.injEq, Cont.pool.injEq, ixN31, ne_eq, List.map_cons, List.map_nil, wRaise0, wRaise1, wFrz, wEnumT, wDict0, wDict1, numD3, Nat.reduceAdd, atI0, atI1, atI2, atI3, atI4, ixN51, ixN52, ixN53, List.length_map, scal, V.int.injEq, V.str.injEq, V.bl.injEq, wSq, wNext, wBreak, wDrop, wRet, wIfS, wAsg, wPar, wLstOwn, wAppend, wSetOwn, wIxOwn, wPeek, wRetFr, wFor, wB, wNot, wAnd, wOr, wAndV, wOrV, wNotV, wChain, wNil, wCons, wCB, wTup, wLst, wNoPart, wPart, wSlT, wSeq, wRng1, wRng2, wZip, wName, wNilT, wConsT, wTupT, wYes, wNeg, wVar, wC, wOp, wcNil, wcCons, wcOwn, wCall, wCallOwn, slots, cellsOf, OwnArgs, putBack, g2I, g2IC, gLen, gAbs, gGcd, gInt1, gTupleOf, gListOf, gIx, gCatT, gCat, gEq, gNe, gIsN, gNotN, scD, seqD_t, seqD_l, seqD_f, isNonD, List.nodup_cons, List.mem_cons, List.not_mem_nil, or_false, not_false_eq_true, Nat.reduceEqDiff, L3.Keeps, ends, wipeD, List.replicate, List.cons_append, List.nil_append, List.append_nil, List.getElem?_cons_zero, List.getElem?_cons_succ, List.set_cons_zero, List.set_cons_succ, List.getD_cons_zero, List.getD_cons_succ, List.length_cons, List.length_nil, List.nodup_nil, Option.some.injEq, Cell.dat.injEq, Cell.own.injEq, Cont.lst.injEq, D.bl.injEq, D.int.injEq, D.str.injEq, D.tup.injEq, D.lst.injEq, Arg.d.injEq, List.cons.injEq, exists_and_left, exists_and_right, exists_eq_left', exists_eq_left, exists_eq_right, exists_eq_right', exists_eq, exists_eq', and_true, true_and, and_assoc, and_self, exists_const, reduceCtorEq, web_wE, web_pE, webD_inj]
  refine fun p2 => ⟨by decide, hc', by decide, by decide, fun c2 n hc2 n0 n2 => ⟨fun _ => ⟨by decide, by decide, ?_⟩, fun _ => ?_⟩⟩
  all_goals
    refine ⟨_, .inl rfl, by rw [List.length_set, List.length_map]; omega, by rw [List.length_set, List.length_map]; omega, okS _ (by simp [OkD, OkDs]), by simp [OkD], ht _ m0, fun i hi2 _ => ?_, fun ha => absurd (ha _ (inS _)) (by simp [isSg, isIntD]), fun ha => absurd (ha _ (inS _)) (by simp [isSg, isIntD])⟩
    exact ⟨[true, false], ⟨true, false, rfl, L.e_NoSights⟩, by decide, by decide, rfl, .inr ⟨true, false, .int 0, (show SameD 6 (.int 0) from trivial), rfl, rfl⟩, hr _ _ _ _ _ _ _ _ _ _ _ _⟩
theorem t7_law_ok {c : Cont} (L : LawF K Z) (hc : SrcC c) (h1 : 1 ≤ ss.length) (h12 : ss.length ≤ 12) (ok : ∀ s ∈ ss, SgOk s) (m1 : 1 ≤ m) (m6 : m ≤ 6)
    (hr : ∀ c1 c2 c3 c4 c5 c6 c7 c8 c9 c10 c11 c12, E.rt (.bl true) [c0, c1, c2, c3, c4, c5, c6, c7, c8, c9, c10, c11, c12]) :
    t7_law K Z E [c0, .own p1 c, .dat (.int k), c3, .dat (.int m), .own p5 (.lst (sgs ss)), c6, c7, c8, c9, c10, c11, c12] := by
  simp only [t7_law, fs__law_things, wAsg2, wTold2, wEnumB, wListOfOwn, wRetOwnG, dcOf, wIsiT, offE, D.adr.injEq, Cont.pool.injEq, ixN31, ne_eq, List.map_cons, List.map_nil, wRaise0, wRaise1, wFrz, wEnumT, wDict0, wDict1, numD3, Nat.reduceAdd, atI0, atI1, atI2, atI3, atI4, ixN51, ixN52, ixN53, List.length_map, scal, V.int.injEq, V.str.injEq, V.bl.injEq, wSq, wNext, wBreak, wDrop, wRet, wIfS, wAsg, wPar, wLstOwn, wAppend, wSetOwn, wIxOwn, wPeek, wRetFr, wFor, wB, wNot, wAnd, wOr, wAndV, wOrV, wNotV, wChain, wNil, wCons, wCB, wTup, wLst, wNoPart, wPart, wSlT, wSeq, wRng1, wRng2, wZip, wName, wNilT, wConsT, wTupT, wYes, wNeg, wVar, wC, wOp, wcNil, wcCons, wcOwn, wCall, wCallOwn, slots, cellsOf, OwnArgs, putBack, g2I, g2IC, gLen, gAbs, gGcd, gInt1, gTupleOf, gListOf, gIx, gCatT, gCat, gEq, gNe, gIsN, gNotN, scD, seqD_t, seqD_l, seqD_f, isNonD, List.nodup_cons, List.mem_cons, List.not_mem_nil, or_false, not_false_eq_true, Nat.reduceEqDiff, L3.Keeps, ends, wipeD, List.replicate, List.cons_append, List.nil_append, List.append_nil, List.getElem?_cons_zero, List.getElem?_cons_succ, List.set_cons_zero, List.set_cons_succ, List.getD_cons_zero, List.getD_cons_succ, List.length_cons, List.length_nil, List.nodup_nil, Option.some.injEq, Cell.dat.injEq, Cell.own.injEq, Cont.lst.injEq, D.bl.injEq, D.int.injEq, D.str.injEq, D.tup.injEq, D.lst.injEq, Arg.d.injEq, List.cons.injEq, exists_and_left, exists_and_right, exists_eq_left', exists_eq_left, exists_eq_right, exists_eq_right', exists_eq, exists_eq', and_true, true_and, and_assoc, and_self, exists_const, reduceCtorEq, web_wE, web_pE, webD_inj]
  exact ⟨hc, by omega, by omega, L.w, fun c' ts hc' t1 t100 ht => t8_law_ok L hc' h1 h12 ok m1 m6 ht t1 t100 hr⟩
theorem t5_law_ok {c : Cont} {es : List D} (L : LawF K Z) (hc : SrcC c) (hs : StepsD es) (m1 : 1 ≤ m) (m6 : m ≤ 6)
    (hr : ∀ c1 c2 c3 c4 c5 c6 c7 c8 c9 c10 c11 c12, E.rt (.bl true) [c0, c1, c2, c3, c4, c5, c6, c7, c8, c9, c10, c11, c12]) :
    t5_law K Z E [c0, .own p1 c, .dat (.int k), .dat (.tup es), .dat (.int m), c5, c6, c7, c8, c9, c10, c11, c12] := by
  simp only [t5_law, fs__law_draw, fs__law_sights, wAsg2, wTold2, wEnumB, wListOfOwn, wRetOwnG, dcOf, wIsiT, offE, D.adr.injEq, Cont.pool.injEq, ixN31, ne_eq, List.map_cons, List.map_nil, wRaise0, wRaise1, wFrz, wEnumT, wDict0, wDict1, numD3, Nat.reduceAdd, atI0, atI1, atI2, atI3, atI4, ixN51, ixN52, ixN53, List.length_map, scal, V.int.injEq, V.str.injEq, V.bl.injEq, wSq, wNext, wBreak, wDrop, wRet, wIfS, wAsg, wPar, wLstOwn, wAppend, wSetOwn, wIxOwn, wPeek, wRetFr, wFor, wB, wNot, wAnd, wOr, wAndV, wOrV, wNotV, wChain, wNil, wCons, wCB, wTup, wLst, wNoPart, wPart, wSlT, wSeq, wRng1, wRng2, wZip, wName, wNilT, wConsT, wTupT, wYes, wNeg, wVar, wC, wOp, wcNil, wcCons, wcOwn, wCall, wCallOwn, slots, cellsOf, OwnArgs, putBack, g2I, g2IC, gLen, gAbs, gGcd, gInt1, gTupleOf, gListOf, gIx, gCatT, gCat, gEq, gNe, gIsN, gNotN, scD, seqD_t, seqD_l, seqD_f, isNonD, List.nodup_cons, List.mem_cons, List.not_mem_nil, or_false, not_false_eq_true, Nat.reduceEqDiff, L3.Keeps, ends, wipeD, List.replicate, List.cons_append, List.nil_append, List.append_nil, List.getElem?_cons_zero, List.getElem?_cons_succ, List.set_cons_zero, List.set_cons_succ, List.getD_cons_zero, List.getD_cons_succ, List.length_cons, List.length_nil, List.nodup_nil, Option.some.injEq, Cell.dat.injEq, Cell.own.injEq, Cont.lst.injEq, D.bl.injEq, D.int.injEq, D.str.injEq, D.tup.injEq, D.lst.injEq, Arg.d.injEq, List.cons.injEq, exists_and_left, exists_and_right, exists_eq_left', exists_eq_left, exists_eq_right, exists_eq_right', exists_eq, exists_eq', and_true, true_and, and_assoc, and_self, exists_const, reduceCtorEq, web_wE, web_pE, webD_inj]
  refine ⟨hc, by decide, by decide, fun c' n hc' n0 n1 => ⟨hc', hs, by omega, by omega, fun c2 ss hc2 hl ok p5 => ?_⟩⟩
  refine l1_law_ok hc2 (by omega) (by omega) (fun s h => ok s h) fun c3 ss' c6 c7 hc3 hl3 ok3 => ?_
  exact t7_law_ok L hc3 (by omega) (by omega) ok3 m1 m6 hr
end
theorem pure_law {Z : CT} : PureD 1 12 (fs_law K Z) (w_law K Z) := by
  rintro cs q e - ⟨ns, rfl, hl, L, hq⟩
  simp only [w_law, fs__law_source, fs__law_draw, fs__law_steps, wAsg2, wTold2, wEnumB, wListOfOwn, wRetOwnG, dcOf, wIsiT, offE, D.adr.injEq, Cont.pool.injEq, ixN31, ne_eq, List.map_cons, List.map_nil, wRaise0, wRaise1, wFrz, wEnumT, wDict0, wDict1, numD3, Nat.reduceAdd, atI0, atI1, atI2, atI3, atI4, ixN51, ixN52, ixN53, List.length_map, scal, V.int.injEq, V.str.injEq, V.bl.injEq, wSq, wNext, wBreak, wDrop, wRet, wIfS, wAsg, wPar, wLstOwn, wAppend, wSetOwn, wIxOwn, wPeek, wRetFr, wFor, wB, wNot, wAnd, wOr, wAndV, wOrV, wNotV, wChain, wNil, wCons, wCB, wTup, wLst, wNoPart, wPart, wSlT, wSeq, wRng1, wRng2, wZip, wName, wNilT, wConsT, wTupT, wYes, wNeg, wVar, wC, wOp, wcNil, wcCons, wcOwn, wCall, wCallOwn, slots, cellsOf, OwnArgs, putBack, g2I, g2IC, gLen, gAbs, gGcd, gInt1, gTupleOf, gListOf, gIx, gCatT, gCat, gEq, gNe, gIsN, gNotN, scD, seqD_t, seqD_l, seqD_f, isNonD, List.nodup_cons, List.mem_cons, List.not_mem_nil, or_false, not_false_eq_true, Nat.reduceEqDiff, L3.Keeps, ends, wipeD, List.replicate, List.cons_append, List.nil_append, List.append_nil, List.getElem?_cons_zero, List.getElem?_cons_succ, List.set_cons_zero, List.set_cons_succ, List.getD_cons_zero, List.getD_cons_succ, List.length_cons, List.length_nil, List.nodup_nil, Option.some.injEq, Cell.dat.injEq, Cell.own.injEq, Cont.lst.injEq, D.bl.injEq, D.int.injEq, D.str.injEq, D.tup.injEq, D.lst.injEq, Arg.d.injEq, List.cons.injEq, exists_and_left, exists_and_right, exists_eq_left', exists_eq_left, exists_eq_right, exists_eq_right', exists_eq, exists_eq', and_true, true_and, and_assoc, and_self, exists_const, reduceCtorEq, web_wE, web_pE, webD_inj]
  refine ⟨ns, rfl, hl, fun f p => ⟨⟨ns, 0, 0, 0, f, rfl, by decide, by decide⟩, by decide, by decide, fun c1 k hc1 k0 k9 => ⟨hc1, by decide, by decide, fun c2 es hc2 l6 hs => ⟨hc2, by decide, by decide, fun c3 n hc3 n0 n5 => ⟨fun _ => ⟨hc3, by decide, by decide, fun c4 v hc4 v0 v6 => ?_⟩, fun _ => ?_⟩⟩⟩⟩⟩
  · exact t5_law_ok L hc4 hs (by omega) (by omega) fun _ _ _ _ _ _ _ _ _ _ _ _ => ⟨trivial, hq⟩
  · exact t5_law_ok L hc3 hs (by have := hs.1; omega) (by omega) fun _ _ _ _ _ _ _ _ _ _ _ _ => ⟨trivial, hq⟩
theorem ok_law (T : Txt K mg) {f cL PL : Addr} {kV doc pm ct oc : Value} {an od : Option Addr} {osl : Array (Option Value)} (lk : K.lookup f = some ⟨oc, od, .func (PySem.W.fnOf "law" "law" (defArgs s_law) (defBody s_law) (defScope s_law) .none kV doc pm an (.ref cL) ct), osl⟩) (hcd : PySem.W.codeIn K (.ref cL) "law" = true) (HT : LamX.TabB base mg cL PL) (hmT : (PL, lamQ) ∈ TB.T) (hu : ∀ p ∈ TB.T, p.1 = PL → p.2 = lamQ) :
    FnOk P w K mg base (L2.CX P w) 10 f (PySem.W.fnOf "law" "law" (defArgs s_law) (defBody s_law) (defScope s_law) .none kV doc pm an (.ref cL) ct) ["script"] (spOf K 1 (fs_law K T.Z)) := by
  refine def_okC lk hcd sc_law (wb := w_law K T.Z) pure_law ?_
  intro A outer s H E hr tk
  exact ⟨_, (pss_cons (ps_set (i := 1) sc_law.nd rfl (by first | exact Or.inl rfl | exact Or.inr rfl) (pe_callS (ok__law_source T) (hr.mono (by decide)) rfl T.g__law_source T.k__law_source T.b__law_source (fun σ => passAt tk σ) (pa_cons (pv 0) pa_nil)))
      (pss_cons (ps_set (i := 2) sc_law.nd rfl (by first | exact Or.inl rfl | exact Or.inr rfl) (pe_callS (ok__law_draw T) (hr.mono (by decide)) rfl T.g__law_draw T.k__law_draw T.b__law_draw (fun σ => passAt tk σ) (pa_cons (pv 1) (pa_cons pe_int pa_nil))))
      (pss_cons (ps_set (i := 3) sc_law.nd rfl (by first | exact Or.inl rfl | exact Or.inr rfl) (pe_callS (ok__law_steps T) (hr.mono (by decide)) rfl T.g__law_steps T.k__law_steps T.b__law_steps (fun σ => passAt tk σ) (pa_cons (pv 1) (pa_cons pe_int (pa_cons pe_bl pa_nil)))))
      (pss_cons (ps_set (i := 4) sc_law.nd rfl (by first | exact Or.inl rfl | exact Or.inr rfl) (pe_callB call_len_seq (by rfl) T.z_len (by decide +kernel) (pa_cons (pv 3) pa_nil)))
      (pss_cons (ps_if (pt_cmpR op_eq (pe_callS (ok__law_draw T) (hr.mono (by decide)) rfl T.g__law_draw T.k__law_draw T.b__law_draw (fun σ => passAt tk σ) (pa_cons (pv 1) (pa_cons pe_int pa_nil))) pe_int (nomark _))
        (pss_one (ps_set (i := 4) sc_law.nd rfl (by first | exact Or.inl rfl | exact Or.inr rfl) (pe_op op_add pe_int (pe_callS (ok__law_draw T) (hr.mono (by decide)) rfl T.g__law_draw T.k__law_draw T.b__law_draw (fun σ => passAt tk σ) (pa_cons (pv 1) (pa_cons pe_int pa_nil))))))
        pss_nil)
      (pss_cons (ps_set (i := 5) sc_law.nd rfl (by first | exact Or.inl rfl | exact Or.inr rfl) (pe_callS (ok__law_sights T) (hr.mono (by decide)) rfl T.g__law_sights T.k__law_sights T.b__law_sights (fun σ => passAt tk σ) (pa_cons (pv 1) (pa_cons (pv 3) (pa_cons (pe_op op_add pe_int (pe_callS (ok__law_draw T) (hr.mono (by decide)) rfl T.g__law_draw T.k__law_draw T.b__law_draw (fun σ => passAt tk σ) (pa_cons (pv 1) (pa_cons pe_int pa_nil)))) pa_nil)))))
      (pss_cons (ps_for (passes_of rfl) rfl (pi_range1 (by rfl) T.z_range (pa_cons (pe_callS (ok__law_draw T) (hr.mono (by decide)) rfl T.g__law_draw T.k__law_draw T.b__law_draw (fun σ => passAt tk σ) (pa_cons (pv 1) (pa_cons pe_int pa_nil))) pa_nil)) (pg_name (i := 6) sc_law.nd rfl (by first | exact Or.inl rfl | exact Or.inr rfl))
        (pss_cons (ps_set (i := 7) sc_law.nd rfl (by first | exact Or.inl rfl | exact Or.inr rfl) (pe_callS (ok__law_draw T) (hr.mono (by decide)) rfl T.g__law_draw T.k__law_draw T.b__law_draw (fun σ => passAt tk σ) (pa_cons (pv 1) (pa_cons (pe_callB call_len_seq (by rfl) T.z_len (by decide +kernel) (pa_cons (pv 5) pa_nil)) pa_nil))))
      (pss_one (ps_asg (pe_tup (pa_cons (pe_ix ix_seq (pe_ix ix_seq (pv 5) (pv 7) (fun _ _ => rfl)) pe_int (fun _ _ => rfl)) (pa_cons (pe_callS (ok__law_pick T) (hr.mono (by decide)) rfl T.g__law_pick T.k__law_pick T.b__law_pick (fun σ => passAt tk σ) (pa_cons (pv 1) (pa_cons (pe_lst (pa_cons (pe_op op_add (pe_ix ix_seq (pe_ix ix_seq (pv 5) (pv 7) (fun _ _ => rfl)) pe_int (fun _ _ => rfl)) pe_int) (pa_cons (pe_op op_sub (pe_ix ix_seq (pe_ix ix_seq (pv 5) (pv 7) (fun _ _ => rfl)) pe_int (fun _ _ => rfl)) pe_int) (pa_cons (pe_un un_neg (pe_ix ix_seq (pe_ix ix_seq (pv 5) (pv 7) (fun _ _ => rfl)) pe_int (fun _ _ => rfl))) (pa_cons pe_int (pa_cons (pe_un un_neg pe_int) pa_nil)))))) pa_nil))) pa_nil))) (pg_sub (pv 5) (pv 7) set_list)))))
      (pss_cons (ps_set (i := 8) sc_law.nd rfl (by first | exact Or.inl rfl | exact Or.inr rfl) (pe_callS (ok__law_things T) (hr.mono (by decide)) rfl T.g__law_things T.k__law_things T.b__law_things (fun σ => passAt tk σ) (pa_cons (pv 1) (pa_cons (pe_callB call_len_seq (by rfl) T.z_len (by decide +kernel) (pa_cons (pv 5) pa_nil)) pa_nil))))
      (pss_cons (ps_if (pt_cmpR op_eq (pv 2) pe_int (nomark _))
        (pss_cons (ps_set (i := 7) sc_law.nd rfl (by first | exact Or.inl rfl | exact Or.inr rfl) (pe_callS (ok__law_draw T) (hr.mono (by decide)) rfl T.g__law_draw T.k__law_draw T.b__law_draw (fun σ => passAt tk σ) (pa_cons (pv 1) (pa_cons (pe_callB call_len_seq (by rfl) T.z_len (by decide +kernel) (pa_cons (pv 5) pa_nil)) pa_nil))))
      (pss_cons (ps_set (i := 9) sc_law.nd rfl (by first | exact Or.inl rfl | exact Or.inr rfl) (pe_callTy call_list_of (by rfl) T.z_list (by decide +kernel) (pa_cons (pv 5) pa_nil)))
      (pss_cons (ps_asg (pe_tup (pa_cons (pe_ix ix_seq (pe_ix ix_seq (pv 5) (pv 7) (fun _ _ => rfl)) pe_int (fun _ _ => rfl)) (pa_cons pe_non pa_nil))) (pg_sub (pv 9) (pv 7) set_list))
      (pss_cons (ps_if (pt_cmpR op_eq (pe_callS (ok__law_draw T) (hr.mono (by decide)) rfl T.g__law_draw T.k__law_draw T.b__law_draw (fun σ => passAt tk σ) (pa_cons (pv 1) (pa_cons pe_int pa_nil))) pe_int (nomark _))
        (pss_one (ps_asg (pe_op op_catT (pe_ix ix_seq (pv 5) (pv 7) (fun _ _ => rfl)) (pe_tup (pa_cons pe_int pa_nil))) (pg_sub (pv 9) (pv 7) set_list)))
        pss_nil)
      (pss_one (ps_ret (pe_callS (ok__law_met T) (hr.mono (by decide)) rfl T.g__law_met T.k__law_met T.b__law_met (fun σ => passAt tk σ) (pa_cons (pe_toldG (TT := toldTT2 K (tellC K T.Z)) (k := 5) T.F__law_told T.b__law_told rfl T.g__law_told sc__law_told rfl (by first | exact Or.inl rfl | exact Or.inr (Or.inl rfl) | exact Or.inr (Or.inr rfl)) (fun _ => told_gives' T rfl rfl) HT rfl hmT hu (hr.mono (by decide)) (@LamX.LamS.mk (defScope s_law) _ rfl rfl rfl (by decide +kernel) (by decide +kernel)) rfl (fun _ _ _ _ _ => rfl) (fun A outer s H E f c' hr => (pe_callS (ok_is_clash T) (hr.mono (by decide)) rfl T.g_is_clash T.k_is_clash T.b_is_clash (fun σ => passAt (takes_of rfl rfl rfl rfl) σ) (pa_cons (pv 9) (pa_cons (pv 4) (pa_cons (pe_ix ix_seq (pv 8) pe_int (fun _ _ => rfl)) pa_nil)))))) (pa_cons (pe_tup (pa_cons pe_str (pa_cons (pe_lst (pa_cons pe_bl (pa_cons pe_bl pa_nil))) (pa_cons pe_int pa_nil)))) pa_nil)))))))))
        pss_nil)
      (pss_cons (ps_if (pt_cmpR op_eq (pv 2) pe_int (nomark _))
        (pss_cons (ps_set (i := 10) sc_law.nd rfl (by first | exact Or.inl rfl | exact Or.inr rfl) (pe_callS (ok__law_pick T) (hr.mono (by decide)) rfl T.g__law_pick T.k__law_pick T.b__law_pick (fun σ => passAt tk σ) (pa_cons (pv 1) (pa_cons (pe_lst (pa_cons pe_int (pa_cons pe_int (pa_cons pe_non (pa_cons pe_bl (pa_cons pe_str (pa_cons (pe_un un_neg pe_int) (pa_cons (pe_tup (pa_cons pe_int pa_nil)) pa_nil)))))))) pa_nil))))
      (pss_one (ps_ret (pe_callS (ok__law_met T) (hr.mono (by decide)) rfl T.g__law_met T.k__law_met T.b__law_met (fun σ => passAt tk σ) (pa_cons (pe_toldG (TT := toldTT2 K (tellC K T.Z)) (k := 5) T.F__law_told T.b__law_told rfl T.g__law_told sc__law_told rfl (by first | exact Or.inl rfl | exact Or.inr (Or.inl rfl) | exact Or.inr (Or.inr rfl)) (fun _ => told_gives' T rfl rfl) HT rfl hmT hu (hr.mono (by decide)) (@LamX.LamS.mk (defScope s_law) _ rfl rfl rfl (by decide +kernel) (by decide +kernel)) rfl (fun _ _ _ _ _ => rfl) (fun A outer s H E f c' hr => (pe_callS (ok_is_clash T) (hr.mono (by decide)) rfl T.g_is_clash T.k_is_clash T.b_is_clash (fun σ => passAt (takes_of rfl rfl rfl rfl) σ) (pa_cons (pv 5) (pa_cons (pv 10) (pa_cons (pe_ix ix_seq (pv 8) (pe_un un_neg pe_int) (fun _ _ => rfl)) pa_nil)))))) (pa_cons (pe_tup (pa_cons pe_str (pa_cons (pe_lst (pa_cons pe_bl (pa_cons pe_bl pa_nil))) (pa_cons pe_int pa_nil)))) pa_nil))))))
        pss_nil)
      (pss_cons (ps_set (i := 11) sc_law.nd rfl (by first | exact Or.inl rfl | exact Or.inr rfl) (pv 5))
      (pss_cons (ps_if (pt_cmpR op_eq (pe_op op_mod (pe_callTy call_int1 (by rfl) T.z_int (by decide +kernel) (pa_cons (pv 2) pa_nil)) pe_int) pe_int (nomark _))
        (pss_one (ps_set (i := 11) sc_law.nd rfl (by first | exact Or.inl rfl | exact Or.inr rfl) (pe_callTy call_tuple_of (by rfl) T.z_tuple (by decide +kernel) (pa_cons (pv 5) pa_nil))))
        pss_nil)
      (pss_cons (ps_for (passes_of rfl) rfl (pi_seq (pv 8)) (pg_name (i := 12) sc_law.nd rfl (by first | exact Or.inl rfl | exact Or.inr rfl))
        (pss_one (ps_if (pt_not (pt_val (pe_callS (ok__law_met T) (hr.mono (by decide)) rfl T.g__law_met T.k__law_met T.b__law_met (fun σ => passAt tk σ) (pa_cons (pe_toldG (TT := toldTT2 K (tellC K T.Z)) (k := 5) T.F__law_told T.b__law_told rfl T.g__law_told sc__law_told rfl (by first | exact Or.inl rfl | exact Or.inr (Or.inl rfl) | exact Or.inr (Or.inr rfl)) (fun _ => told_gives' T rfl rfl) HT rfl hmT hu (hr.mono (by decide)) (@LamX.LamS.mk (defScope s_law) _ rfl rfl rfl (by decide +kernel) (by decide +kernel)) rfl (fun _ _ _ _ _ => rfl) (fun A outer s H E f c' hr => (pe_callS (ok_is_clash T) (hr.mono (by decide)) rfl T.g_is_clash T.k_is_clash T.b_is_clash (fun σ => passAt (takes_of rfl rfl rfl rfl) σ) (pa_cons (pv 11) (pa_cons (pv 4) (pa_cons (pv 12) pa_nil)))))) (pa_cons (pe_tup (pa_cons pe_str (pa_cons (pe_callS (ok__law_due T) (hr.mono (by decide)) rfl T.g__law_due T.k__law_due T.b__law_due (fun σ => passAt tk σ) (pa_cons (pv 5) (pa_cons (pv 4) (pa_cons (pv 12) pa_nil)))) pa_nil))) pa_nil)))))
        (pss_one (ps_ret pe_bl))
        pss_nil)))
      (pss_one (ps_ret pe_bl))))))))))))))),
    (ds_seq (ds_callOwn (i := 1) (n := 1) (fs := fs__law_source K) (dac_cons (de_var 0) dac_nil))
      (ds_seq (ds_asg (de_call (n := 2) (fs := fs__law_draw K) (dac_own (j := 1) (dac_cons de_int dac_nil))) (dg_name 2))
      (ds_seq (ds_asg (de_call (n := 3) (fs := fs__law_steps K) (dac_own (j := 1) (dac_cons de_int (dac_cons de_bl dac_nil)))) (dg_name 3))
      (ds_seq (ds_asg (de_cb o_len (da_cons (de_var 3) da_nil)) (dg_name 4))
      (ds_seq (ds_if (dt_B (de_op o_eq (de_call (n := 2) (fs := fs__law_draw K) (dac_own (j := 1) (dac_cons de_int dac_nil))) de_int)) (ds_asg (de_op o_add de_int (de_call (n := 2) (fs := fs__law_draw K) (dac_own (j := 1) (dac_cons de_int dac_nil)))) (dg_name 4)) ds_nil)
      (ds_seq (ds_callOwn (i := 5) (n := 3) (fs := fs__law_sights K) (dac_own (j := 1) (dac_cons (de_var 3) (dac_cons (de_op o_add de_int (de_call (n := 2) (fs := fs__law_draw K) (dac_own (j := 1) (dac_cons de_int dac_nil)))) dac_nil))))
      (ds_seq (ds_for (wI := (wRng1 (wCons (wCall 2 (fs__law_draw K) (wcOwn 1 (wcCons (wC (.int 4)) wcNil))) wNil))) (wg := (wName 6)) (wb := (wSq (wAsg (wCall 2 (fs__law_draw K) (wcOwn 1 (wcCons (wPeek 5 (fun es q => q (.int es.length))) wcNil))) (wName 7))
  (wSetOwn 5 (wTup (wCons (wOp gIx (wIxOwn 5 (wVar 7)) (wC (.int 0))) (wCons (wCall 2 (fs__law_pick K) (wcOwn 1 (wcCons (wLst (wCons (wOp gAddI (wOp gIx (wIxOwn 5 (wVar 7)) (wC (.int 1))) (wC (.int 1))) (wCons (wOp gSubI (wOp gIx (wIxOwn 5 (wVar 7)) (wC (.int 1))) (wC (.int 1))) (wCons (wNeg (wOp gIx (wIxOwn 5 (wVar 7)) (wC (.int 1)))) (wCons (wC (.int 7)) (wCons (wNeg (wC (.int 2))) wNil)))))) wcNil))) wNil))) (wVar 7)))) (di_rng1 (da_cons (de_call (n := 2) (fs := fs__law_draw K) (dac_own (j := 1) (dac_cons de_int dac_nil))) da_nil)) (dg_name 6) (ds_seq (ds_asg (de_call (n := 2) (fs := fs__law_draw K) (dac_own (j := 1) (dac_cons (de_peek (i := 5) p_len) dac_nil))) (dg_name 7))
      (ds_setOwn (i := 5) (de_tup (da_cons (de_op o_ix (de_ixOwn (i := 5) (de_var 7)) de_int) (da_cons (de_call (n := 2) (fs := fs__law_pick K) (dac_own (j := 1) (dac_cons (de_lst (da_cons (de_op o_add (de_op o_ix (de_ixOwn (i := 5) (de_var 7)) de_int) de_int) (da_cons (de_op o_sub (de_op o_ix (de_ixOwn (i := 5) (de_var 7)) de_int) de_int) (da_cons (de_neg (de_op o_ix (de_ixOwn (i := 5) (de_var 7)) de_int)) (da_cons de_int (da_cons (de_neg de_int) da_nil)))))) dac_nil))) da_nil))) (de_var 7))))
      (ds_seq (ds_asg (de_call (n := 2) (fs := fs__law_things K T.Z) (dac_own (j := 1) (dac_cons (de_peek (i := 5) p_len) dac_nil))) (dg_name 8))
      (ds_seq (ds_if (dt_B (de_op o_eq (de_var 2) de_int)) (ds_seq (ds_asg (de_call (n := 2) (fs := fs__law_draw K) (dac_own (j := 1) (dac_cons (de_peek (i := 5) p_len) dac_nil))) (dg_name 7))
      (ds_seq (ds_listOfOwn (i := 9) (j := 5))
      (ds_seq (ds_setOwn (i := 9) (de_tup (da_cons (de_op o_ix (de_ixOwn (i := 5) (de_var 7)) de_int) (da_cons de_non da_nil))) (de_var 7))
      (ds_seq (ds_if (dt_B (de_op o_eq (de_call (n := 2) (fs := fs__law_draw K) (dac_own (j := 1) (dac_cons de_int dac_nil))) de_int)) (ds_setOwn (i := 9) (de_op o_catT (de_ixOwn (i := 5) (de_var 7)) (de_tup (da_cons de_int da_nil))) (de_var 7)) ds_nil)
      (ds_ret (de_call (n := 2) (fs := fs__law_met K) (dac_cons (de_told2 (tell := (tellC K T.Z)) fun E => (de_call (n := 3) (fs := fs_is_clash K T.Z) (dac_cons (de_frz 9) (dac_cons (de_var 4) (dac_cons (de_op o_ix (de_var 8) de_int) dac_nil))))) (dac_cons (de_tup (da_cons de_str (da_cons (de_lst (da_cons de_bl (da_cons de_bl da_nil))) (da_cons de_int da_nil)))) dac_nil)))))))) ds_nil)
      (ds_seq (ds_if (dt_B (de_op o_eq (de_var 2) de_int)) (ds_seq (ds_asg (de_call (n := 2) (fs := fs__law_pick K) (dac_own (j := 1) (dac_cons (de_lst (da_cons de_int (da_cons de_int (da_cons de_non (da_cons de_bl (da_cons de_str (da_cons (de_neg de_int) (da_cons (de_tup (da_cons de_int da_nil)) da_nil)))))))) dac_nil))) (dg_name 10))
      (ds_ret (de_call (n := 2) (fs := fs__law_met K) (dac_cons (de_told2 (tell := (tellC K T.Z)) fun E => (de_call (n := 3) (fs := fs_is_clash K T.Z) (dac_cons (de_eor (de_frz 5) (de_var 5)) (dac_cons (de_var 10) (dac_cons (de_op o_ix (de_var 8) (de_neg de_int)) dac_nil))))) (dac_cons (de_tup (da_cons de_str (da_cons (de_lst (da_cons de_bl (da_cons de_bl da_nil))) (da_cons de_int da_nil)))) dac_nil))))) ds_nil)
      (ds_seq (ds_asg (de_eor (de_frz 5) (de_var 5)) (dg_name 11))
      (ds_seq (ds_if (dt_B (de_op o_eq (de_op o_mod (de_cb o_int1 (da_cons (de_var 2) da_nil)) de_int) de_int)) (ds_asg (de_eor (de_peek (i := 5) p_tupleOf) (de_cb o_tupleOf (da_cons (de_var 5) da_nil))) (dg_name 11)) ds_nil)
      (ds_seq (ds_for (wI := (wSeq (wVar 8))) (wg := (wName 12)) (wb := (wIfS (wNot (wB (wCall 2 (fs__law_met K) (wcCons (wTold2 (tellC K T.Z) (wCall 3 (fs_is_clash K T.Z) (wcCons (wVar 11) (wcCons (wVar 4) (wcCons (wVar 12) wcNil))))) (wcCons (wTup (wCons (wC (.str "told")) (wCons (wCall 3 (fs__law_due K) (wcCons (wEor (wFrz 5) (wVar 5)) (wcCons (wVar 4) (wcCons (wVar 12) wcNil)))) wNil))) wcNil))))) (wRet (wC (.bl false))) wNext)) (di_seq (de_var 8)) (dg_name 12) (ds_if (dt_not (dt_B (de_call (n := 2) (fs := fs__law_met K) (dac_cons (de_told2 (tell := (tellC K T.Z)) fun E => (de_call (n := 3) (fs := fs_is_clash K T.Z) (dac_cons (de_var 11) (dac_cons (de_var 4) (dac_cons (de_var 12) dac_nil))))) (dac_cons (de_tup (da_cons de_str (da_cons (de_call (n := 3) (fs := fs__law_due K) (dac_cons (de_eor (de_frz 5) (de_var 5)) (dac_cons (de_var 4) (dac_cons (de_var 12) dac_nil)))) da_nil))) dac_nil))))) (ds_ret de_bl) ds_nil))
      (ds_ret de_bl))))))))))))))⟩
end
end K86

namespace K86
open PySem PySem.Spec PyProof.Rows L2 L3
/-! ## the law's own head -/
def noTbl (H : Hp) : Hp := fun b => match H b with | some (.tbl _) => none | o => o
theorem noTbl_same {H : Hp} : Same (noTbl H) H := fun b o e => by
  unfold noTbl at e
  split at e
  · cases e
  · exact e
theorem noTbl_nt {H : Hp} : ∀ b o, noTbl H b = some o → NT o := fun b o e ps z => by
  subst z
  unfold noTbl at e
  split at e
  · cases e
  · rename_i h
    exact h ps e
theorem noTbl_seq {K : PySem.W.Frag} {H : Hp} {a : Addr} {xs : List V} (h : SqL K H a xs) : SqL K (noTbl H) a xs := by
  rcases h with (h | ⟨o, h⟩) | h
  · exact .inl (.inl (by unfold noTbl; rw [h]))
  · exact .inl (.inr ⟨o, by unfold noTbl; rw [h]⟩)
  · exact .inr h
theorem law_at {l : PySem.W.OpenLaw} {w : World} {K : PySem.W.Frag} {mg : Str → Option Value} {h : Heap} (T : Txt K mg) (L : LawF K T.Z) {f cL PL : Addr} {kV doc pm ct oc : Value} {an od : Option Addr} {osl : Array (Option Value)}
    (lk : K.lookup f = some ⟨oc, od, .func (PySem.W.fnOf "law" "law" (defArgs s_law) (defBody s_law) (defScope s_law) .none kV doc pm an (.ref cL) ct), osl⟩) (hcd : PySem.W.codeIn K (.ref cL) "law" = true)
    (hP : h.get? PL = some { cls := .none, data := .fields #[] }) (nP : K.lookup PL = none) (hCd : PySem.W.CodeHd h cL PL) : LamX.LawAtS l w K (L2.CX l.prog w) 10 63 "script" mg f h := by
  letI TB : TabT := ⟨[(PL, lamQ)]⟩
  have one : ∀ {P : Addr × Addr → Prop}, P (cL, PL) → ∀ p ∈ [(cL, PL)], P p := fun hp p hm => by
    have : p = (cL, PL) := by simpa using hm
    rw [this]; exact hp
  refine ⟨_, [(cL, PL)], spOf K 1 (fs_law K T.Z), one hP, one nP, one hCd, fun s v => .of_eq rfl, fun H a ns hn _ hT hS => ?_, fun base _ _ hB => ok_law T lk hcd (hB _ (List.mem_cons_self ..)) (List.mem_cons_self ..) fun p hp _ => ?_⟩
  · have hH : H PL = some (.tbl #[]) := hT (cL, PL) (List.mem_cons_self ..)
    refine ⟨rfl, noTbl H, [.dat (.fl (ns.map D.int))], fun d _ => d = .bl true, fun _ _ => False, ⟨⟨fun p hp => ?_, noTbl_nt⟩, noTbl_same, rfl, fun i s c h1 h2 => ?_, fun i c h1 => ?_, fun i j c d a h1 _ f _ => ?_⟩, ⟨ns, rfl, by omega, L, rfl⟩, fun v d cs' F' H' _ _ _ r e => ?_, fun _ _ _ _ _ _ _ _ _ _ z => z⟩
    · have : p = (PL, lamQ) := by
        have hp' : p ∈ [(PL, lamQ)] := hp
        simpa using hp'
      rw [this]
      exact .nil hH
    · match i, h1, h2 with
      | 0, h1, h2 =>
        cases h1; cases h2
        exact ⟨.ref a, rfl, .fl (noTbl_seq hS) Reps.ints⟩
      | i + 1, h1, h2 => simp at h1
    · match i, h1 with
      | 0, h1 => cases h1; exact trivial
      | i + 1, h1 => simp at h1
    · match i, h1 with
      | 0, h1 => cases h1; exact f.elim
      | i + 1, h1 => simp at h1
    · subst e
      exact r.bl_of
  · have : p = (PL, lamQ) := by
      have hp' : p ∈ [(PL, lamQ)] := hp
      simpa using hp'
    rw [this]
theorem cx_none {P : Program} : ∀ (w : World) (H : Hp) (s : Shared) (e : Value) (s' : Shared), L2.CX P w [] H s (fun _ _ _ => False) e s' → False := fun w H s e s' ⟨_, _, _, _, _, _, _, _, _, _, _, _, z⟩ => z
theorem kit_bt {K : PySem.W.Frag} {C : Addr} {T : String} {b : Bool} (h1 : PySem.W.kitMeta T = true) (h : PySem.W.subIn K (.ref C) (.type T) = some b) : PySem.W.kitOne K (.ref C) (.type T) = some b := by
  show (if (Value.ref C == Value.type T) = true then some true else if PySem.W.kitMeta T = true then PySem.W.subIn K (.ref C) (.type T) else none) = some b
  have e : (Value.ref C == Value.type T) = false := rfl
  rw [e, if_neg (by decide), if_pos h1]
  exact h
theorem kit_cr {K : PySem.W.Frag} {C D : Addr} {b : Bool} (h1 : PySem.W.isClsIn K D = true) (h2 : PySem.W.typeIn K (.ref D) = some (.type "type")) (h : PySem.W.subIn K (.ref C) (.ref D) = some b) : PySem.W.kitCls K (.ref C) (.ref D) = some b := by
  have e2 : ((PySem.W.clsIn K D).isSome && PySem.W.typeIn K (.ref D) == some (.type "type")) = true := by
    have h1' : (PySem.W.clsIn K D).isSome = true := h1
    rw [h1', h2]
    rfl
  show (if ((PySem.W.clsIn K D).isSome && PySem.W.typeIn K (.ref D) == some (.type "type")) = true then PySem.W.subIn K (.ref C) (.ref D) else none) = some b
  rw [if_pos e2]
  exact h
theorem kit_rt {K : PySem.W.Frag} {C D : Addr} (h1 : PySem.W.isClsIn K D = true) (h2 : PySem.W.typeIn K (.ref D) = some (.type "type")) (h : PySem.W.subIn K (.ref C) (.ref D) = some true) : PySem.W.kitOne K (.ref C) (.ref D) = some true := by
  show (if (Value.ref C == Value.ref D) = true then some true else PySem.W.kitCls K (.ref C) (.ref D)) = some true
  rw [kit_cr h1 h2 h]
  split <;> rfl
theorem kit_rf {K : PySem.W.Frag} {C D : Addr} (hne : (Value.ref C == Value.ref D) = false) (h1 : PySem.W.isClsIn K D = true) (h2 : PySem.W.typeIn K (.ref D) = some (.type "type")) (h : PySem.W.subIn K (.ref C) (.ref D) = some false) : PySem.W.kitOne K (.ref C) (.ref D) = some false := by
  show (if (Value.ref C == Value.ref D) = true then some true else PySem.W.kitCls K (.ref C) (.ref D)) = some false
  rw [kit_cr h1 h2 h, hne]
  rfl
section
variable {K : PySem.W.Frag} {mg : Str → Option Value}
open PySem.W PySem.Calls PySem.HandSPX in
theorem all_mk {l : PySem.W.OpenLaw} {w : World} {h : Heap} {fa : Addr} (X : K.In h) (G : h.Ns mainGlobals mg) (hfa : mg "law" = some (.ref fa))
    {C_NoNumber : Addr}
    {C_Web : Addr}
    {C_TidesError : Addr}
    {C_BadWeb : Addr}
    {C_NoSights : Addr}
    {f_is_integer : Addr} {od_is_integer an_is_integer : Option Addr} {sl_is_integer : Array (Option Value)} {oc_is_integer kV_is_integer dc_is_integer pm_is_integer cd_is_integer ct_is_integer : Value}
    {f_is_between : Addr} {od_is_between an_is_between : Option Addr} {sl_is_between : Array (Option Value)} {oc_is_between kV_is_between dc_is_between pm_is_between cd_is_between ct_is_between : Value}
    {f_is_tuple_of : Addr} {od_is_tuple_of an_is_tuple_of : Option Addr} {sl_is_tuple_of : Array (Option Value)} {oc_is_tuple_of kV_is_tuple_of dc_is_tuple_of pm_is_tuple_of cd_is_tuple_of ct_is_tuple_of : Value}
    {f_is_fraction : Addr} {od_is_fraction an_is_fraction : Option Addr} {sl_is_fraction : Array (Option Value)} {oc_is_fraction kV_is_fraction dc_is_fraction pm_is_fraction cd_is_fraction ct_is_fraction : Value}
    {f_at_most : Addr} {od_at_most an_at_most : Option Addr} {sl_at_most : Array (Option Value)} {oc_at_most kV_at_most dc_at_most pm_at_most cd_at_most ct_at_most : Value}
    {f_is_threshold : Addr} {od_is_threshold an_is_threshold : Option Addr} {sl_is_threshold : Array (Option Value)} {oc_is_threshold kV_is_threshold dc_is_threshold pm_is_threshold cd_is_threshold ct_is_threshold : Value}
    {f_is_list : Addr} {od_is_list an_is_list : Option Addr} {sl_is_list : Array (Option Value)} {oc_is_list kV_is_list dc_is_list pm_is_list cd_is_list ct_is_list : Value}
    {f_is_width : Addr} {od_is_width an_is_width : Option Addr} {sl_is_width : Array (Option Value)} {oc_is_width kV_is_width dc_is_width pm_is_width cd_is_width ct_is_width : Value}
    {f_is_widths : Addr} {od_is_widths an_is_widths : Option Addr} {sl_is_widths : Array (Option Value)} {oc_is_widths kV_is_widths dc_is_widths pm_is_widths cd_is_widths ct_is_widths : Value}
    {f_is_pipe : Addr} {od_is_pipe an_is_pipe : Option Addr} {sl_is_pipe : Array (Option Value)} {oc_is_pipe kV_is_pipe dc_is_pipe pm_is_pipe cd_is_pipe ct_is_pipe : Value}
    {f_Web__init__ : Addr} {od_Web__init__ an_Web__init__ : Option Addr} {sl_Web__init__ : Array (Option Value)} {oc_Web__init__ kV_Web__init__ dc_Web__init__ pm_Web__init__ cd_Web__init__ ct_Web__init__ : Value}
    {f_is_sight : Addr} {od_is_sight an_is_sight : Option Addr} {sl_is_sight : Array (Option Value)} {oc_is_sight kV_is_sight dc_is_sight pm_is_sight cd_is_sight ct_is_sight : Value}
    {f_check_sights : Addr} {od_check_sights an_check_sights : Option Addr} {sl_check_sights : Array (Option Value)} {oc_check_sights kV_check_sights dc_check_sights pm_check_sights cd_check_sights ct_check_sights : Value}
    {f_bars_alone : Addr} {od_bars_alone an_bars_alone : Option Addr} {sl_bars_alone : Array (Option Value)} {oc_bars_alone kV_bars_alone dc_bars_alone pm_bars_alone cd_bars_alone ct_bars_alone : Value}
    {f_amount : Addr} {od_amount an_amount : Option Addr} {sl_amount : Array (Option Value)} {oc_amount kV_amount dc_amount pm_amount cd_amount ct_amount : Value}
    {f_edges : Addr} {od_edges an_edges : Option Addr} {sl_edges : Array (Option Value)} {oc_edges kV_edges dc_edges pm_edges cd_edges ct_edges : Value}
    {f_clash_of : Addr} {od_clash_of an_clash_of : Option Addr} {sl_clash_of : Array (Option Value)} {oc_clash_of kV_clash_of dc_clash_of pm_clash_of cd_clash_of ct_clash_of : Value}
    {f_is_clash : Addr} {od_is_clash an_is_clash : Option Addr} {sl_is_clash : Array (Option Value)} {oc_is_clash kV_is_clash dc_is_clash pm_is_clash cd_is_clash ct_is_clash : Value}
    {f__law_source : Addr} {od__law_source an__law_source : Option Addr} {sl__law_source : Array (Option Value)} {oc__law_source kV__law_source dc__law_source pm__law_source cd__law_source ct__law_source : Value}
    {f__law_mixed : Addr} {od__law_mixed an__law_mixed : Option Addr} {sl__law_mixed : Array (Option Value)} {oc__law_mixed kV__law_mixed dc__law_mixed pm__law_mixed cd__law_mixed ct__law_mixed : Value}
    {f__law_draw : Addr} {od__law_draw an__law_draw : Option Addr} {sl__law_draw : Array (Option Value)} {oc__law_draw kV__law_draw dc__law_draw pm__law_draw cd__law_draw ct__law_draw : Value}
    {f__law_pick : Addr} {od__law_pick an__law_pick : Option Addr} {sl__law_pick : Array (Option Value)} {oc__law_pick kV__law_pick dc__law_pick pm__law_pick cd__law_pick ct__law_pick : Value}
    {f__law_divisor : Addr} {od__law_divisor an__law_divisor : Option Addr} {sl__law_divisor : Array (Option Value)} {oc__law_divisor kV__law_divisor dc__law_divisor pm__law_divisor cd__law_divisor ct__law_divisor : Value}
    {f__law_made : Addr} {od__law_made an__law_made : Option Addr} {sl__law_made : Array (Option Value)} {oc__law_made kV__law_made dc__law_made pm__law_made cd__law_made ct__law_made : Value}
    {f__law_same : Addr} {od__law_same an__law_same : Option Addr} {sl__law_same : Array (Option Value)} {oc__law_same kV__law_same dc__law_same pm__law_same cd__law_same ct__law_same : Value}
    {f__law_integer : Addr} {od__law_integer an__law_integer : Option Addr} {sl__law_integer : Array (Option Value)} {oc__law_integer kV__law_integer dc__law_integer pm__law_integer cd__law_integer ct__law_integer : Value}
    {f__law_deep : Addr} {od__law_deep an__law_deep : Option Addr} {sl__law_deep : Array (Option Value)} {oc__law_deep kV__law_deep dc__law_deep pm__law_deep cd__law_deep ct__law_deep : Value}
    {f__law_strange : Addr} {od__law_strange an__law_strange : Option Addr} {sl__law_strange : Array (Option Value)} {oc__law_strange kV__law_strange dc__law_strange pm__law_strange cd__law_strange ct__law_strange : Value}
    {f__law_in_order : Addr} {od__law_in_order an__law_in_order : Option Addr} {sl__law_in_order : Array (Option Value)} {oc__law_in_order kV__law_in_order dc__law_in_order pm__law_in_order cd__law_in_order ct__law_in_order : Value}
    {f__law_steps : Addr} {od__law_steps an__law_steps : Option Addr} {sl__law_steps : Array (Option Value)} {oc__law_steps kV__law_steps dc__law_steps pm__law_steps cd__law_steps ct__law_steps : Value}
    {f__law_added : Addr} {od__law_added an__law_added : Option Addr} {sl__law_added : Array (Option Value)} {oc__law_added kV__law_added dc__law_added pm__law_added cd__law_added ct__law_added : Value}
    {f__law_flow : Addr} {od__law_flow an__law_flow : Option Addr} {sl__law_flow : Array (Option Value)} {oc__law_flow kV__law_flow dc__law_flow pm__law_flow cd__law_flow ct__law_flow : Value}
    {f__law_drop_near : Addr} {od__law_drop_near an__law_drop_near : Option Addr} {sl__law_drop_near : Array (Option Value)} {oc__law_drop_near kV__law_drop_near dc__law_drop_near pm__law_drop_near cd__law_drop_near ct__law_drop_near : Value}
    {f__law_sights : Addr} {od__law_sights an__law_sights : Option Addr} {sl__law_sights : Array (Option Value)} {oc__law_sights kV__law_sights dc__law_sights pm__law_sights cd__law_sights ct__law_sights : Value}
    {f__law_things : Addr} {od__law_things an__law_things : Option Addr} {sl__law_things : Array (Option Value)} {oc__law_things kV__law_things dc__law_things pm__law_things cd__law_things ct__law_things : Value}
    {f__law_sight_alone : Addr} {od__law_sight_alone an__law_sight_alone : Option Addr} {sl__law_sight_alone : Array (Option Value)} {oc__law_sight_alone kV__law_sight_alone dc__law_sight_alone pm__law_sight_alone cd__law_sight_alone ct__law_sight_alone : Value}
    {f__law_below : Addr} {od__law_below an__law_below : Option Addr} {sl__law_below : Array (Option Value)} {oc__law_below kV__law_below dc__law_below pm__law_below cd__law_below ct__law_below : Value}
    {f__law_abs : Addr} {od__law_abs an__law_abs : Option Addr} {sl__law_abs : Array (Option Value)} {oc__law_abs kV__law_abs dc__law_abs pm__law_abs cd__law_abs ct__law_abs : Value}
    {f__law_sights_agree : Addr} {od__law_sights_agree an__law_sights_agree : Option Addr} {sl__law_sights_agree : Array (Option Value)} {oc__law_sights_agree kV__law_sights_agree dc__law_sights_agree pm__law_sights_agree cd__law_sights_agree ct__law_sights_agree : Value}
    {f__law_some_list : Addr} {od__law_some_list an__law_some_list : Option Addr} {sl__law_some_list : Array (Option Value)} {oc__law_some_list kV__law_some_list dc__law_some_list pm__law_some_list cd__law_some_list ct__law_some_list : Value}
    {f__law_due : Addr} {od__law_due an__law_due : Option Addr} {sl__law_due : Array (Option Value)} {oc__law_due kV__law_due dc__law_due pm__law_due cd__law_due ct__law_due : Value}
    {f__law_met : Addr} {od__law_met an__law_met : Option Addr} {sl__law_met : Array (Option Value)} {oc__law_met kV__law_met dc__law_met pm__law_met cd__law_met ct__law_met : Value}
    {f__law_told : Addr} {od__law_told an__law_told : Option Addr} {sl__law_told : Array (Option Value)} {oc__law_told kV__law_told dc__law_told pm__law_told cd__law_told ct__law_told : Value}
    {fi_NoNumber : Addr} {nm_NoNumber qn_NoNumber : Str} {N_NoNumber : Addr} {bs_NoNumber bm_NoNumber : List Value} {sn_NoNumber : List Str} {sub_NoNumber : List Value} {ab_NoNumber : Bool} {col_NoNumber : Option Bool} {dd_NoNumber : Option Addr} {m0_NoNumber m1_NoNumber m2_NoNumber m3_NoNumber m5_NoNumber : Option Value} {oci_NoNumber : Value} {odi_NoNumber : Option Addr} {dci_NoNumber pmi_NoNumber : Value} {ani_NoNumber : Option Addr} {cdi_NoNumber cti_NoNumber : Value} {sli_NoNumber : Array (Option Value)}
    {nm_BadWeb qn_BadWeb : Str} {N_BadWeb : Addr} {bs_BadWeb bm_BadWeb : List Value} {sn_BadWeb : List Str} {sub_BadWeb : List Value} {ab_BadWeb : Bool} {col_BadWeb : Option Bool} {dd_BadWeb : Option Addr} {m0_BadWeb m1_BadWeb m2_BadWeb m3_BadWeb m5_BadWeb : Option Value}
    {f_BadWeb__init__ : Addr} {od_BadWeb__init__ an_BadWeb__init__ : Option Addr} {sl_BadWeb__init__ : Array (Option Value)} {oc_BadWeb__init__ kV_BadWeb__init__ dc_BadWeb__init__ pm_BadWeb__init__ cd_BadWeb__init__ ct_BadWeb__init__ : Value}
    {nm_NoSights qn_NoSights : Str} {N_NoSights : Addr} {bs_NoSights bm_NoSights : List Value} {sn_NoSights : List Str} {sub_NoSights : List Value} {ab_NoSights : Bool} {col_NoSights : Option Bool} {dd_NoSights : Option Addr} {m0_NoSights m1_NoSights m2_NoSights m3_NoSights m5_NoSights : Option Value}
    {f_NoSights__init__ : Addr} {od_NoSights__init__ an_NoSights__init__ : Option Addr} {sl_NoSights__init__ : Array (Option Value)} {oc_NoSights__init__ kV_NoSights__init__ dc_NoSights__init__ pm_NoSights__init__ cd_NoSights__init__ ct_NoSights__init__ : Value}
    {t_MOST_BOTTOM : Tok}
    {t_MOST_PIPES : Tok}
    {t_MOST_SIGHTS : Tok}
    {t_MOST_THRESHOLDS : Tok}
    {t_MOST_TOP : Tok}
    {t_MOST_VESSELS : Tok}
    {t_MOST_WIDTH : Tok}
    {f_law cL PL : Addr} {od_law an_law odL : Option Addr} {sl_law slL : Array (Option Value)} {oc_law kV_law dc_law pm_law ct_law : Value} {vsL : Array Value} {fiL : Str} {tfL : Tok} {flL : Int} {tgL : Tok} {inL : Bool} {txL : Int} {ttL : Tok}
    (aC_NoNumber : PySem.W.nsIn K mainGlobals "NoNumber" = some (some (.ref C_NoNumber)))
    (aC_Web : PySem.W.nsIn K mainGlobals "Web" = some (some (.ref C_Web)))
    (aC_TidesError : PySem.W.nsIn K mainGlobals "TidesError" = some (some (.ref C_TidesError)))
    (aC_BadWeb : PySem.W.nsIn K mainGlobals "BadWeb" = some (some (.ref C_BadWeb)))
    (aC_NoSights : PySem.W.nsIn K mainGlobals "NoSights" = some (some (.ref C_NoSights)))
    (a_is_integer : PySem.W.nsIn K mainGlobals "is_integer" = some (some (.ref f_is_integer)))
    (l_is_integer : K.lookup f_is_integer = some ⟨oc_is_integer, od_is_integer, .func (PySem.W.fnOf "is_integer" "is_integer" (defArgs s_is_integer) (defBody s_is_integer) (defScope s_is_integer) .none kV_is_integer dc_is_integer pm_is_integer an_is_integer cd_is_integer ct_is_integer), sl_is_integer⟩)
    (c_is_integer : PySem.W.codeIn K cd_is_integer "is_integer" = true)
    (k_is_integer : PySem.W.keepIn K (.ref f_is_integer) = true)
    (a_is_between : PySem.W.nsIn K mainGlobals "is_between" = some (some (.ref f_is_between)))
    (l_is_between : K.lookup f_is_between = some ⟨oc_is_between, od_is_between, .func (PySem.W.fnOf "is_between" "is_between" (defArgs s_is_between) (defBody s_is_between) (defScope s_is_between) .none kV_is_between dc_is_between pm_is_between an_is_between cd_is_between ct_is_between), sl_is_between⟩)
    (c_is_between : PySem.W.codeIn K cd_is_between "is_between" = true)
    (k_is_between : PySem.W.keepIn K (.ref f_is_between) = true)
    (a_is_tuple_of : PySem.W.nsIn K mainGlobals "is_tuple_of" = some (some (.ref f_is_tuple_of)))
    (l_is_tuple_of : K.lookup f_is_tuple_of = some ⟨oc_is_tuple_of, od_is_tuple_of, .func (PySem.W.fnOf "is_tuple_of" "is_tuple_of" (defArgs s_is_tuple_of) (defBody s_is_tuple_of) (defScope s_is_tuple_of) .none kV_is_tuple_of dc_is_tuple_of pm_is_tuple_of an_is_tuple_of cd_is_tuple_of ct_is_tuple_of), sl_is_tuple_of⟩)
    (c_is_tuple_of : PySem.W.codeIn K cd_is_tuple_of "is_tuple_of" = true)
    (k_is_tuple_of : PySem.W.keepIn K (.ref f_is_tuple_of) = true)
    (a_is_fraction : PySem.W.nsIn K mainGlobals "is_fraction" = some (some (.ref f_is_fraction)))
    (l_is_fraction : K.lookup f_is_fraction = some ⟨oc_is_fraction, od_is_fraction, .func (PySem.W.fnOf "is_fraction" "is_fraction" (defArgs s_is_fraction) (defBody s_is_fraction) (defScope s_is_fraction) .none kV_is_fraction dc_is_fraction pm_is_fraction an_is_fraction cd_is_fraction ct_is_fraction), sl_is_fraction⟩)
    (c_is_fraction : PySem.W.codeIn K cd_is_fraction "is_fraction" = true)
    (k_is_fraction : PySem.W.keepIn K (.ref f_is_fraction) = true)
    (a_at_most : PySem.W.nsIn K mainGlobals "at_most" = some (some (.ref f_at_most)))
    (l_at_most : K.lookup f_at_most = some ⟨oc_at_most, od_at_most, .func (PySem.W.fnOf "at_most" "at_most" (defArgs s_at_most) (defBody s_at_most) (defScope s_at_most) .none kV_at_most dc_at_most pm_at_most an_at_most cd_at_most ct_at_most), sl_at_most⟩)
    (c_at_most : PySem.W.codeIn K cd_at_most "at_most" = true)
    (k_at_most : PySem.W.keepIn K (.ref f_at_most) = true)
    (a_is_threshold : PySem.W.nsIn K mainGlobals "is_threshold" = some (some (.ref f_is_threshold)))
    (l_is_threshold : K.lookup f_is_threshold = some ⟨oc_is_threshold, od_is_threshold, .func (PySem.W.fnOf "is_threshold" "is_threshold" (defArgs s_is_threshold) (defBody s_is_threshold) (defScope s_is_threshold) .none kV_is_threshold dc_is_threshold pm_is_threshold an_is_threshold cd_is_threshold ct_is_threshold), sl_is_threshold⟩)
    (c_is_threshold : PySem.W.codeIn K cd_is_threshold "is_threshold" = true)
    (k_is_threshold : PySem.W.keepIn K (.ref f_is_threshold) = true)
    (a_is_list : PySem.W.nsIn K mainGlobals "is_list" = some (some (.ref f_is_list)))
    (l_is_list : K.lookup f_is_list = some ⟨oc_is_list, od_is_list, .func (PySem.W.fnOf "is_list" "is_list" (defArgs s_is_list) (defBody s_is_list) (defScope s_is_list) .none kV_is_list dc_is_list pm_is_list an_is_list cd_is_list ct_is_list), sl_is_list⟩)
    (c_is_list : PySem.W.codeIn K cd_is_list "is_list" = true)
    (k_is_list : PySem.W.keepIn K (.ref f_is_list) = true)
    (a_is_width : PySem.W.nsIn K mainGlobals "is_width" = some (some (.ref f_is_width)))
    (l_is_width : K.lookup f_is_width = some ⟨oc_is_width, od_is_width, .func (PySem.W.fnOf "is_width" "is_width" (defArgs s_is_width) (defBody s_is_width) (defScope s_is_width) .none kV_is_width dc_is_width pm_is_width an_is_width cd_is_width ct_is_width), sl_is_width⟩)
    (c_is_width : PySem.W.codeIn K cd_is_width "is_width" = true)
    (k_is_width : PySem.W.keepIn K (.ref f_is_width) = true)
    (a_is_widths : PySem.W.nsIn K mainGlobals "is_widths" = some (some (.ref f_is_widths)))
    (l_is_widths : K.lookup f_is_widths = some ⟨oc_is_widths, od_is_widths, .func (PySem.W.fnOf "is_widths" "is_widths" (defArgs s_is_widths) (defBody s_is_widths) (defScope s_is_widths) .none kV_is_widths dc_is_widths pm_is_widths an_is_widths cd_is_widths ct_is_widths), sl_is_widths⟩)
    (c_is_widths : PySem.W.codeIn K cd_is_widths "is_widths" = true)
    (k_is_widths : PySem.W.keepIn K (.ref f_is_widths) = true)
    (a_is_pipe : PySem.W.nsIn K mainGlobals "is_pipe" = some (some (.ref f_is_pipe)))
    (l_is_pipe : K.lookup f_is_pipe = some ⟨oc_is_pipe, od_is_pipe, .func (PySem.W.fnOf "is_pipe" "is_pipe" (defArgs s_is_pipe) (defBody s_is_pipe) (defScope s_is_pipe) .none kV_is_pipe dc_is_pipe pm_is_pipe an_is_pipe cd_is_pipe ct_is_pipe), sl_is_pipe⟩)
    (c_is_pipe : PySem.W.codeIn K cd_is_pipe "is_pipe" = true)
    (k_is_pipe : PySem.W.keepIn K (.ref f_is_pipe) = true)
    (a_Web__init__ : PySem.W.findIn K (.ref C_Web) "__init__" = some (some (.ref f_Web__init__)))
    (l_Web__init__ : K.lookup f_Web__init__ = some ⟨oc_Web__init__, od_Web__init__, .func (PySem.W.fnOf "__init__" "Web.__init__" (defArgs s_Web__init__) (defBody s_Web__init__) (defScope s_Web__init__) .none kV_Web__init__ dc_Web__init__ pm_Web__init__ an_Web__init__ cd_Web__init__ ct_Web__init__), sl_Web__init__⟩)
    (c_Web__init__ : PySem.W.codeIn K cd_Web__init__ "Web.__init__" = true)
    (k_Web__init__ : PySem.W.keepIn K (.ref f_Web__init__) = true)
    (a_is_sight : PySem.W.nsIn K mainGlobals "is_sight" = some (some (.ref f_is_sight)))
    (l_is_sight : K.lookup f_is_sight = some ⟨oc_is_sight, od_is_sight, .func (PySem.W.fnOf "is_sight" "is_sight" (defArgs s_is_sight) (defBody s_is_sight) (defScope s_is_sight) .none kV_is_sight dc_is_sight pm_is_sight an_is_sight cd_is_sight ct_is_sight), sl_is_sight⟩)
    (c_is_sight : PySem.W.codeIn K cd_is_sight "is_sight" = true)
    (k_is_sight : PySem.W.keepIn K (.ref f_is_sight) = true)
    (a_check_sights : PySem.W.nsIn K mainGlobals "check_sights" = some (some (.ref f_check_sights)))
    (l_check_sights : K.lookup f_check_sights = some ⟨oc_check_sights, od_check_sights, .func (PySem.W.fnOf "check_sights" "check_sights" (defArgs s_check_sights) (defBody s_check_sights) (defScope s_check_sights) .none kV_check_sights dc_check_sights pm_check_sights an_check_sights cd_check_sights ct_check_sights), sl_check_sights⟩)
    (c_check_sights : PySem.W.codeIn K cd_check_sights "check_sights" = true)
    (k_check_sights : PySem.W.keepIn K (.ref f_check_sights) = true)
    (a_bars_alone : PySem.W.nsIn K mainGlobals "bars_alone" = some (some (.ref f_bars_alone)))
    (l_bars_alone : K.lookup f_bars_alone = some ⟨oc_bars_alone, od_bars_alone, .func (PySem.W.fnOf "bars_alone" "bars_alone" (defArgs s_bars_alone) (defBody s_bars_alone) (defScope s_bars_alone) .none kV_bars_alone dc_bars_alone pm_bars_alone an_bars_alone cd_bars_alone ct_bars_alone), sl_bars_alone⟩)
    (c_bars_alone : PySem.W.codeIn K cd_bars_alone "bars_alone" = true)
    (k_bars_alone : PySem.W.keepIn K (.ref f_bars_alone) = true)
    (a_amount : PySem.W.nsIn K mainGlobals "amount" = some (some (.ref f_amount)))
    (l_amount : K.lookup f_amount = some ⟨oc_amount, od_amount, .func (PySem.W.fnOf "amount" "amount" (defArgs s_amount) (defBody s_amount) (defScope s_amount) .none kV_amount dc_amount pm_amount an_amount cd_amount ct_amount), sl_amount⟩)
    (c_amount : PySem.W.codeIn K cd_amount "amount" = true)
    (k_amount : PySem.W.keepIn K (.ref f_amount) = true)
    (a_edges : PySem.W.nsIn K mainGlobals "edges" = some (some (.ref f_edges)))
    (l_edges : K.lookup f_edges = some ⟨oc_edges, od_edges, .func (PySem.W.fnOf "edges" "edges" (defArgs s_edges) (defBody s_edges) (defScope s_edges) .none kV_edges dc_edges pm_edges an_edges cd_edges ct_edges), sl_edges⟩)
    (c_edges : PySem.W.codeIn K cd_edges "edges" = true)
    (k_edges : PySem.W.keepIn K (.ref f_edges) = true)
    (a_clash_of : PySem.W.nsIn K mainGlobals "clash_of" = some (some (.ref f_clash_of)))
    (l_clash_of : K.lookup f_clash_of = some ⟨oc_clash_of, od_clash_of, .func (PySem.W.fnOf "clash_of" "clash_of" (defArgs s_clash_of) (defBody s_clash_of) (defScope s_clash_of) .none kV_clash_of dc_clash_of pm_clash_of an_clash_of cd_clash_of ct_clash_of), sl_clash_of⟩)
    (c_clash_of : PySem.W.codeIn K cd_clash_of "clash_of" = true)
    (k_clash_of : PySem.W.keepIn K (.ref f_clash_of) = true)
    (a_is_clash : PySem.W.nsIn K mainGlobals "is_clash" = some (some (.ref f_is_clash)))
    (l_is_clash : K.lookup f_is_clash = some ⟨oc_is_clash, od_is_clash, .func (PySem.W.fnOf "is_clash" "is_clash" (defArgs s_is_clash) (defBody s_is_clash) (defScope s_is_clash) .none kV_is_clash dc_is_clash pm_is_clash an_is_clash cd_is_clash ct_is_clash), sl_is_clash⟩)
    (c_is_clash : PySem.W.codeIn K cd_is_clash "is_clash" = true)
    (k_is_clash : PySem.W.keepIn K (.ref f_is_clash) = true)
    (a__law_source : PySem.W.nsIn K mainGlobals "_law_source" = some (some (.ref f__law_source)))
    (l__law_source : K.lookup f__law_source = some ⟨oc__law_source, od__law_source, .func (PySem.W.fnOf "_law_source" "_law_source" (defArgs s__law_source) (defBody s__law_source) (defScope s__law_source) .none kV__law_source dc__law_source pm__law_source an__law_source cd__law_source ct__law_source), sl__law_source⟩)
    (c__law_source : PySem.W.codeIn K cd__law_source "_law_source" = true)
    (k__law_source : PySem.W.keepIn K (.ref f__law_source) = true)
    (a__law_mixed : PySem.W.nsIn K mainGlobals "_law_mixed" = some (some (.ref f__law_mixed)))
    (l__law_mixed : K.lookup f__law_mixed = some ⟨oc__law_mixed, od__law_mixed, .func (PySem.W.fnOf "_law_mixed" "_law_mixed" (defArgs s__law_mixed) (defBody s__law_mixed) (defScope s__law_mixed) .none kV__law_mixed dc__law_mixed pm__law_mixed an__law_mixed cd__law_mixed ct__law_mixed), sl__law_mixed⟩)
    (c__law_mixed : PySem.W.codeIn K cd__law_mixed "_law_mixed" = true)
    (k__law_mixed : PySem.W.keepIn K (.ref f__law_mixed) = true)
    (a__law_draw : PySem.W.nsIn K mainGlobals "_law_draw" = some (some (.ref f__law_draw)))
    (l__law_draw : K.lookup f__law_draw = some ⟨oc__law_draw, od__law_draw, .func (PySem.W.fnOf "_law_draw" "_law_draw" (defArgs s__law_draw) (defBody s__law_draw) (defScope s__law_draw) .none kV__law_draw dc__law_draw pm__law_draw an__law_draw cd__law_draw ct__law_draw), sl__law_draw⟩)
    (c__law_draw : PySem.W.codeIn K cd__law_draw "_law_draw" = true)
    (k__law_draw : PySem.W.keepIn K (.ref f__law_draw) = true)
    (a__law_pick : PySem.W.nsIn K mainGlobals "_law_pick" = some (some (.ref f__law_pick)))
    (l__law_pick : K.lookup f__law_pick = some ⟨oc__law_pick, od__law_pick, .func (PySem.W.fnOf "_law_pick" "_law_pick" (defArgs s__law_pick) (defBody s__law_pick) (defScope s__law_pick) .none kV__law_pick dc__law_pick pm__law_pick an__law_pick cd__law_pick ct__law_pick), sl__law_pick⟩)
    (c__law_pick : PySem.W.codeIn K cd__law_pick "_law_pick" = true)
    (k__law_pick : PySem.W.keepIn K (.ref f__law_pick) = true)
    (a__law_divisor : PySem.W.nsIn K mainGlobals "_law_divisor" = some (some (.ref f__law_divisor)))
    (l__law_divisor : K.lookup f__law_divisor = some ⟨oc__law_divisor, od__law_divisor, .func (PySem.W.fnOf "_law_divisor" "_law_divisor" (defArgs s__law_divisor) (defBody s__law_divisor) (defScope s__law_divisor) .none kV__law_divisor dc__law_divisor pm__law_divisor an__law_divisor cd__law_divisor ct__law_divisor), sl__law_divisor⟩)
    (c__law_divisor : PySem.W.codeIn K cd__law_divisor "_law_divisor" = true)
    (k__law_divisor : PySem.W.keepIn K (.ref f__law_divisor) = true)
    (a__law_made : PySem.W.nsIn K mainGlobals "_law_made" = some (some (.ref f__law_made)))
    (l__law_made : K.lookup f__law_made = some ⟨oc__law_made, od__law_made, .func (PySem.W.fnOf "_law_made" "_law_made" (defArgs s__law_made) (defBody s__law_made) (defScope s__law_made) .none kV__law_made dc__law_made pm__law_made an__law_made cd__law_made ct__law_made), sl__law_made⟩)
    (c__law_made : PySem.W.codeIn K cd__law_made "_law_made" = true)
    (k__law_made : PySem.W.keepIn K (.ref f__law_made) = true)
    (a__law_same : PySem.W.nsIn K mainGlobals "_law_same" = some (some (.ref f__law_same)))
    (l__law_same : K.lookup f__law_same = some ⟨oc__law_same, od__law_same, .func (PySem.W.fnOf "_law_same" "_law_same" (defArgs s__law_same) (defBody s__law_same) (defScope s__law_same) .none kV__law_same dc__law_same pm__law_same an__law_same cd__law_same ct__law_same), sl__law_same⟩)
    (c__law_same : PySem.W.codeIn K cd__law_same "_law_same" = true)
    (k__law_same : PySem.W.keepIn K (.ref f__law_same) = true)
    (a__law_integer : PySem.W.nsIn K mainGlobals "_law_integer" = some (some (.ref f__law_integer)))
    (l__law_integer : K.lookup f__law_integer = some ⟨oc__law_integer, od__law_integer, .func (PySem.W.fnOf "_law_integer" "_law_integer" (defArgs s__law_integer) (defBody s__law_integer) (defScope s__law_integer) .none kV__law_integer dc__law_integer pm__law_integer an__law_integer cd__law_integer ct__law_integer), sl__law_integer⟩)
    (c__law_integer : PySem.W.codeIn K cd__law_integer "_law_integer" = true)
    (k__law_integer : PySem.W.keepIn K (.ref f__law_integer) = true)
    (a__law_deep : PySem.W.nsIn K mainGlobals "_law_deep" = some (some (.ref f__law_deep)))
    (l__law_deep : K.lookup f__law_deep = some ⟨oc__law_deep, od__law_deep, .func (PySem.W.fnOf "_law_deep" "_law_deep" (defArgs s__law_deep) (defBody s__law_deep) (defScope s__law_deep) .none kV__law_deep dc__law_deep pm__law_deep an__law_deep cd__law_deep ct__law_deep), sl__law_deep⟩)
    (c__law_deep : PySem.W.codeIn K cd__law_deep "_law_deep" = true)
    (k__law_deep : PySem.W.keepIn K (.ref f__law_deep) = true)
    (a__law_strange : PySem.W.nsIn K mainGlobals "_law_strange" = some (some (.ref f__law_strange)))
    (l__law_strange : K.lookup f__law_strange = some ⟨oc__law_strange, od__law_strange, .func (PySem.W.fnOf "_law_strange" "_law_strange" (defArgs s__law_strange) (defBody s__law_strange) (defScope s__law_strange) .none kV__law_strange dc__law_strange pm__law_strange an__law_strange cd__law_strange ct__law_strange), sl__law_strange⟩)
    (c__law_strange : PySem.W.codeIn K cd__law_strange "_law_strange" = true)
    (k__law_strange : PySem.W.keepIn K (.ref f__law_strange) = true)
    (a__law_in_order : PySem.W.nsIn K mainGlobals "_law_in_order" = some (some (.ref f__law_in_order)))
    (l__law_in_order : K.lookup f__law_in_order = some ⟨oc__law_in_order, od__law_in_order, .func (PySem.W.fnOf "_law_in_order" "_law_in_order" (defArgs s__law_in_order) (defBody s__law_in_order) (defScope s__law_in_order) .none kV__law_in_order dc__law_in_order pm__law_in_order an__law_in_order cd__law_in_order ct__law_in_order), sl__law_in_order⟩)
    (c__law_in_order : PySem.W.codeIn K cd__law_in_order "_law_in_order" = true)
    (k__law_in_order : PySem.W.keepIn K (.ref f__law_in_order) = true)
    (a__law_steps : PySem.W.nsIn K mainGlobals "_law_steps" = some (some (.ref f__law_steps)))
    (l__law_steps : K.lookup f__law_steps = some ⟨oc__law_steps, od__law_steps, .func (PySem.W.fnOf "_law_steps" "_law_steps" (defArgs s__law_steps) (defBody s__law_steps) (defScope s__law_steps) .none kV__law_steps dc__law_steps pm__law_steps an__law_steps cd__law_steps ct__law_steps), sl__law_steps⟩)
    (c__law_steps : PySem.W.codeIn K cd__law_steps "_law_steps" = true)
    (k__law_steps : PySem.W.keepIn K (.ref f__law_steps) = true)
    (a__law_added : PySem.W.nsIn K mainGlobals "_law_added" = some (some (.ref f__law_added)))
    (l__law_added : K.lookup f__law_added = some ⟨oc__law_added, od__law_added, .func (PySem.W.fnOf "_law_added" "_law_added" (defArgs s__law_added) (defBody s__law_added) (defScope s__law_added) .none kV__law_added dc__law_added pm__law_added an__law_added cd__law_added ct__law_added), sl__law_added⟩)
    (c__law_added : PySem.W.codeIn K cd__law_added "_law_added" = true)
    (k__law_added : PySem.W.keepIn K (.ref f__law_added) = true)
    (a__law_flow : PySem.W.nsIn K mainGlobals "_law_flow" = some (some (.ref f__law_flow)))
    (l__law_flow : K.lookup f__law_flow = some ⟨oc__law_flow, od__law_flow, .func (PySem.W.fnOf "_law_flow" "_law_flow" (defArgs s__law_flow) (defBody s__law_flow) (defScope s__law_flow) .none kV__law_flow dc__law_flow pm__law_flow an__law_flow cd__law_flow ct__law_flow), sl__law_flow⟩)
    (c__law_flow : PySem.W.codeIn K cd__law_flow "_law_flow" = true)
    (k__law_flow : PySem.W.keepIn K (.ref f__law_flow) = true)
    (a__law_drop_near : PySem.W.nsIn K mainGlobals "_law_drop_near" = some (some (.ref f__law_drop_near)))
    (l__law_drop_near : K.lookup f__law_drop_near = some ⟨oc__law_drop_near, od__law_drop_near, .func (PySem.W.fnOf "_law_drop_near" "_law_drop_near" (defArgs s__law_drop_near) (defBody s__law_drop_near) (defScope s__law_drop_near) .none kV__law_drop_near dc__law_drop_near pm__law_drop_near an__law_drop_near cd__law_drop_near ct__law_drop_near), sl__law_drop_near⟩)
    (c__law_drop_near : PySem.W.codeIn K cd__law_drop_near "_law_drop_near" = true)
    (k__law_drop_near : PySem.W.keepIn K (.ref f__law_drop_near) = true)
    (a__law_sights : PySem.W.nsIn K mainGlobals "_law_sights" = some (some (.ref f__law_sights)))
    (l__law_sights : K.lookup f__law_sights = some ⟨oc__law_sights, od__law_sights, .func (PySem.W.fnOf "_law_sights" "_law_sights" (defArgs s__law_sights) (defBody s__law_sights) (defScope s__law_sights) .none kV__law_sights dc__law_sights pm__law_sights an__law_sights cd__law_sights ct__law_sights), sl__law_sights⟩)
    (c__law_sights : PySem.W.codeIn K cd__law_sights "_law_sights" = true)
    (k__law_sights : PySem.W.keepIn K (.ref f__law_sights) = true)
    (a__law_things : PySem.W.nsIn K mainGlobals "_law_things" = some (some (.ref f__law_things)))
    (l__law_things : K.lookup f__law_things = some ⟨oc__law_things, od__law_things, .func (PySem.W.fnOf "_law_things" "_law_things" (defArgs s__law_things) (defBody s__law_things) (defScope s__law_things) .none kV__law_things dc__law_things pm__law_things an__law_things cd__law_things ct__law_things), sl__law_things⟩)
    (c__law_things : PySem.W.codeIn K cd__law_things "_law_things" = true)
    (k__law_things : PySem.W.keepIn K (.ref f__law_things) = true)
    (a__law_sight_alone : PySem.W.nsIn K mainGlobals "_law_sight_alone" = some (some (.ref f__law_sight_alone)))
    (l__law_sight_alone : K.lookup f__law_sight_alone = some ⟨oc__law_sight_alone, od__law_sight_alone, .func (PySem.W.fnOf "_law_sight_alone" "_law_sight_alone" (defArgs s__law_sight_alone) (defBody s__law_sight_alone) (defScope s__law_sight_alone) .none kV__law_sight_alone dc__law_sight_alone pm__law_sight_alone an__law_sight_alone cd__law_sight_alone ct__law_sight_alone), sl__law_sight_alone⟩)
    (c__law_sight_alone : PySem.W.codeIn K cd__law_sight_alone "_law_sight_alone" = true)
    (k__law_sight_alone : PySem.W.keepIn K (.ref f__law_sight_alone) = true)
    (a__law_below : PySem.W.nsIn K mainGlobals "_law_below" = some (some (.ref f__law_below)))
    (l__law_below : K.lookup f__law_below = some ⟨oc__law_below, od__law_below, .func (PySem.W.fnOf "_law_below" "_law_below" (defArgs s__law_below) (defBody s__law_below) (defScope s__law_below) .none kV__law_below dc__law_below pm__law_below an__law_below cd__law_below ct__law_below), sl__law_below⟩)
    (c__law_below : PySem.W.codeIn K cd__law_below "_law_below" = true)
    (k__law_below : PySem.W.keepIn K (.ref f__law_below) = true)
    (a__law_abs : PySem.W.nsIn K mainGlobals "_law_abs" = some (some (.ref f__law_abs)))
    (l__law_abs : K.lookup f__law_abs = some ⟨oc__law_abs, od__law_abs, .func (PySem.W.fnOf "_law_abs" "_law_abs" (defArgs s__law_abs) (defBody s__law_abs) (defScope s__law_abs) .none kV__law_abs dc__law_abs pm__law_abs an__law_abs cd__law_abs ct__law_abs), sl__law_abs⟩)
    (c__law_abs : PySem.W.codeIn K cd__law_abs "_law_abs" = true)
    (k__law_abs : PySem.W.keepIn K (.ref f__law_abs) = true)
    (a__law_sights_agree : PySem.W.nsIn K mainGlobals "_law_sights_agree" = some (some (.ref f__law_sights_agree)))
    (l__law_sights_agree : K.lookup f__law_sights_agree = some ⟨oc__law_sights_agree, od__law_sights_agree, .func (PySem.W.fnOf "_law_sights_agree" "_law_sights_agree" (defArgs s__law_sights_agree) (defBody s__law_sights_agree) (defScope s__law_sights_agree) .none kV__law_sights_agree dc__law_sights_agree pm__law_sights_agree an__law_sights_agree cd__law_sights_agree ct__law_sights_agree), sl__law_sights_agree⟩)
    (c__law_sights_agree : PySem.W.codeIn K cd__law_sights_agree "_law_sights_agree" = true)
    (k__law_sights_agree : PySem.W.keepIn K (.ref f__law_sights_agree) = true)
    (a__law_some_list : PySem.W.nsIn K mainGlobals "_law_some_list" = some (some (.ref f__law_some_list)))
    (l__law_some_list : K.lookup f__law_some_list = some ⟨oc__law_some_list, od__law_some_list, .func (PySem.W.fnOf "_law_some_list" "_law_some_list" (defArgs s__law_some_list) (defBody s__law_some_list) (defScope s__law_some_list) .none kV__law_some_list dc__law_some_list pm__law_some_list an__law_some_list cd__law_some_list ct__law_some_list), sl__law_some_list⟩)
    (c__law_some_list : PySem.W.codeIn K cd__law_some_list "_law_some_list" = true)
    (k__law_some_list : PySem.W.keepIn K (.ref f__law_some_list) = true)
    (a__law_due : PySem.W.nsIn K mainGlobals "_law_due" = some (some (.ref f__law_due)))
    (l__law_due : K.lookup f__law_due = some ⟨oc__law_due, od__law_due, .func (PySem.W.fnOf "_law_due" "_law_due" (defArgs s__law_due) (defBody s__law_due) (defScope s__law_due) .none kV__law_due dc__law_due pm__law_due an__law_due cd__law_due ct__law_due), sl__law_due⟩)
    (c__law_due : PySem.W.codeIn K cd__law_due "_law_due" = true)
    (k__law_due : PySem.W.keepIn K (.ref f__law_due) = true)
    (a__law_met : PySem.W.nsIn K mainGlobals "_law_met" = some (some (.ref f__law_met)))
    (l__law_met : K.lookup f__law_met = some ⟨oc__law_met, od__law_met, .func (PySem.W.fnOf "_law_met" "_law_met" (defArgs s__law_met) (defBody s__law_met) (defScope s__law_met) .none kV__law_met dc__law_met pm__law_met an__law_met cd__law_met ct__law_met), sl__law_met⟩)
    (c__law_met : PySem.W.codeIn K cd__law_met "_law_met" = true)
    (k__law_met : PySem.W.keepIn K (.ref f__law_met) = true)
    (a__law_told : PySem.W.nsIn K mainGlobals "_law_told" = some (some (.ref f__law_told)))
    (l__law_told : K.lookup f__law_told = some ⟨oc__law_told, od__law_told, .func (PySem.W.fnOf "_law_told" "_law_told" (defArgs s__law_told) (defBody s__law_told) (defScope s__law_told) .none kV__law_told dc__law_told pm__law_told an__law_told cd__law_told ct__law_told), sl__law_told⟩)
    (c__law_told : PySem.W.codeIn K cd__law_told "_law_told" = true)
    (k__law_told : PySem.W.keepIn K (.ref f__law_told) = true)
    (xL_NoNumber : K.lookup C_NoNumber = some (excClassObj nm_NoNumber qn_NoNumber C_NoNumber N_NoNumber bs_NoNumber bm_NoNumber true sn_NoNumber sub_NoNumber ab_NoNumber col_NoNumber dd_NoNumber m0_NoNumber m1_NoNumber m2_NoNumber m3_NoNumber m5_NoNumber "ValueError.__new__"))
    (xr_NoNumber : refsVE bm_NoNumber = true)
    (xi_NoNumber : PySem.W.findIn K (.ref C_NoNumber) "__init__" = some (some (.ref fi_NoNumber)))
    (xt_NoNumber : PySem.W.typeIn K (.ref fi_NoNumber) = some (.type "function"))
    (xk_NoNumber : PySem.W.keepIn K (.ref C_NoNumber) = true)
    (xs_NoNumber : PySem.W.subIn K (.ref C_NoNumber) (.type "BaseException") = some true)
    (xy_NoNumber : PySem.W.typeIn K (.ref C_NoNumber) = some (.type "type"))
    (xf_NoNumber : K.lookup fi_NoNumber = some ⟨oci_NoNumber, odi_NoNumber, .func (PySem.W.fnOf "__init__" "NoNumber.__init__" (L3.xA ⟨21, 17, 21, 21⟩) (L3.xB ⟨22, 8, 22, 12⟩) L3.xS .none .none dci_NoNumber pmi_NoNumber ani_NoNumber cdi_NoNumber cti_NoNumber), sli_NoNumber⟩)
    (xc_NoNumber : PySem.W.codeIn K cdi_NoNumber "NoNumber.__init__" = true)
    (xL_BadWeb : K.lookup C_BadWeb = some (excClassObj nm_BadWeb qn_BadWeb C_BadWeb N_BadWeb bs_BadWeb bm_BadWeb true sn_BadWeb sub_BadWeb ab_BadWeb col_BadWeb dd_BadWeb m0_BadWeb m1_BadWeb m2_BadWeb m3_BadWeb m5_BadWeb "ValueError.__new__"))
    (xr_BadWeb : refsVE bm_BadWeb = true)
    (xi_BadWeb : PySem.W.findIn K (.ref C_BadWeb) "__init__" = some (some (.ref f_BadWeb__init__)))
    (l_BadWeb__init__ : K.lookup f_BadWeb__init__ = some ⟨oc_BadWeb__init__, od_BadWeb__init__, .func (PySem.W.fnOf "__init__" "BadWeb.__init__" (defArgs sx_BadWeb) (defBody sx_BadWeb) (defScope sx_BadWeb) .none kV_BadWeb__init__ dc_BadWeb__init__ pm_BadWeb__init__ an_BadWeb__init__ cd_BadWeb__init__ ct_BadWeb__init__), sl_BadWeb__init__⟩)
    (c_BadWeb__init__ : PySem.W.codeIn K cd_BadWeb__init__ "BadWeb.__init__" = true)
    (k_BadWeb__init__ : PySem.W.keepIn K (.ref f_BadWeb__init__) = true)
    (xt_BadWeb : PySem.W.typeIn K (.ref f_BadWeb__init__) = some (.type "function"))
    (xk_BadWeb : PySem.W.keepIn K (.ref C_BadWeb) = true)
    (xs_BadWeb : PySem.W.subIn K (.ref C_BadWeb) (.type "BaseException") = some true)
    (xy_BadWeb : PySem.W.typeIn K (.ref C_BadWeb) = some (.type "type"))
    (xsa_BadWeb : PySem.W.findIn K (.ref C_BadWeb) "__setattr__" = some (some (.builtin "object.__setattr__")))
    (xga_BadWeb : PySem.W.findIn K (.ref C_BadWeb) "__getattribute__" = some (some (.builtin "BaseException.__getattribute__")))
    (xgg_BadWeb : PySem.W.findIn K (.ref C_BadWeb) "__getattr__" = some none)
    (xhd_BadWeb : PySem.W.hasDictIn K C_BadWeb = true)
    (no_BadWeb : PySem.W.findIn K (.ref C_BadWeb) "part" = some none)
    (xL_NoSights : K.lookup C_NoSights = some (excClassObj nm_NoSights qn_NoSights C_NoSights N_NoSights bs_NoSights bm_NoSights true sn_NoSights sub_NoSights ab_NoSights col_NoSights dd_NoSights m0_NoSights m1_NoSights m2_NoSights m3_NoSights m5_NoSights "ValueError.__new__"))
    (xr_NoSights : refsVE bm_NoSights = true)
    (xi_NoSights : PySem.W.findIn K (.ref C_NoSights) "__init__" = some (some (.ref f_NoSights__init__)))
    (l_NoSights__init__ : K.lookup f_NoSights__init__ = some ⟨oc_NoSights__init__, od_NoSights__init__, .func (PySem.W.fnOf "__init__" "NoSights.__init__" (defArgs sx_NoSights) (defBody sx_NoSights) (defScope sx_NoSights) .none kV_NoSights__init__ dc_NoSights__init__ pm_NoSights__init__ an_NoSights__init__ cd_NoSights__init__ ct_NoSights__init__), sl_NoSights__init__⟩)
    (c_NoSights__init__ : PySem.W.codeIn K cd_NoSights__init__ "NoSights.__init__" = true)
    (k_NoSights__init__ : PySem.W.keepIn K (.ref f_NoSights__init__) = true)
    (xt_NoSights : PySem.W.typeIn K (.ref f_NoSights__init__) = some (.type "function"))
    (xk_NoSights : PySem.W.keepIn K (.ref C_NoSights) = true)
    (xs_NoSights : PySem.W.subIn K (.ref C_NoSights) (.type "BaseException") = some true)
    (xy_NoSights : PySem.W.typeIn K (.ref C_NoSights) = some (.type "type"))
    (xsa_NoSights : PySem.W.findIn K (.ref C_NoSights) "__setattr__" = some (some (.builtin "object.__setattr__")))
    (xga_NoSights : PySem.W.findIn K (.ref C_NoSights) "__getattribute__" = some (some (.builtin "BaseException.__getattribute__")))
    (xgg_NoSights : PySem.W.findIn K (.ref C_NoSights) "__getattr__" = some none)
    (xhd_NoSights : PySem.W.hasDictIn K C_NoSights = true)
    (no_NoSights : PySem.W.findIn K (.ref C_NoSights) "index" = some none)
    (wm_Web : PySem.W.makesIn K C_Web = true)
    (wf_Web : PySem.W.isFn K (.ref f_Web__init__) = true)
    (wk_Web : PySem.W.keepIn K (.ref C_Web) = true)
    (wp_Web : PySem.W.plainGet K C_Web Str.empty = true)
    (wd_Web : PySem.W.hasDictIn K C_Web = true)
    (wo_Web : PySem.W.plainOver K C_Web = true)
    (ws_Web : PySem.W.findIn K (.ref C_Web) "__setattr__" = some (some (.builtin "object.__setattr__")))
    (wc_Web : PySem.W.findIn K (.ref C_Web) "__class__" = some (some (.builtin "object.__class__")))
    (wg_Web : PySem.W.specialIn K (.builtin "object.__class__") "__get__" = some (some (.builtin "getset_descriptor.__get__")))
    (wt_Web : PySem.W.takesIn K (.builtin "object.__class__") = some true)
    (wr_Web : PySem.W.mroIn K C_Web (.type "object") = some true)
    (wint_Web : PySem.W.subIn K (.ref C_Web) (.type "int") = some false)
    (wbool_Web : PySem.W.subIn K (.ref C_Web) (.type "bool") = some false)
    (wstr_Web : PySem.W.subIn K (.ref C_Web) (.type "str") = some false)
    (wtuple_Web : PySem.W.subIn K (.ref C_Web) (.type "tuple") = some false)
    (wlist_Web : PySem.W.subIn K (.ref C_Web) (.type "list") = some false)
    (na_Web_pipes : PySem.W.findIn K (.ref C_Web) "pipes" = some none)
    (na_Web_widths : PySem.W.findIn K (.ref C_Web) "widths" = some none)
    (z_abs : PySem.W.nsIn K mainGlobals "abs" = some none)
    (z_all : PySem.W.nsIn K mainGlobals "all" = some none)
    (z_bool : PySem.W.nsIn K mainGlobals "bool" = some none)
    (z_enumerate : PySem.W.nsIn K mainGlobals "enumerate" = some none)
    (z_int : PySem.W.nsIn K mainGlobals "int" = some none)
    (z_isinstance : PySem.W.nsIn K mainGlobals "isinstance" = some none)
    (z_len : PySem.W.nsIn K mainGlobals "len" = some none)
    (z_list : PySem.W.nsIn K mainGlobals "list" = some none)
    (z_range : PySem.W.nsIn K mainGlobals "range" = some none)
    (z_sorted : PySem.W.nsIn K mainGlobals "sorted" = some none)
    (z_str : PySem.W.nsIn K mainGlobals "str" = some none)
    (z_tuple : PySem.W.nsIn K mainGlobals "tuple" = some none)
    (z_zip : PySem.W.nsIn K mainGlobals "zip" = some none)
    (n_MOST_BOTTOM : PySem.W.nsIn K mainGlobals "MOST_BOTTOM" = some (some (.int 144 t_MOST_BOTTOM)))
    (n_MOST_PIPES : PySem.W.nsIn K mainGlobals "MOST_PIPES" = some (some (.int 36 t_MOST_PIPES)))
    (n_MOST_SIGHTS : PySem.W.nsIn K mainGlobals "MOST_SIGHTS" = some (some (.int 1000 t_MOST_SIGHTS)))
    (n_MOST_THRESHOLDS : PySem.W.nsIn K mainGlobals "MOST_THRESHOLDS" = some (some (.int 6 t_MOST_THRESHOLDS)))
    (n_MOST_TOP : PySem.W.nsIn K mainGlobals "MOST_TOP" = some (some (.int 1000000 t_MOST_TOP)))
    (n_MOST_VESSELS : PySem.W.nsIn K mainGlobals "MOST_VESSELS" = some (some (.int 12 t_MOST_VESSELS)))
    (n_MOST_WIDTH : PySem.W.nsIn K mainGlobals "MOST_WIDTH" = some (some (.int 12 t_MOST_WIDTH)))
    (m_gcd : PySem.W.nsIn K mainGlobals "gcd" = some (some (.builtin "math.gcd")))
    (tg_NoSights : PySem.W.findIn K (.ref C_NoSights) "__getattribute__" = some (some (.builtin "BaseException.__getattribute__")))
    (tk_NoSights : PySem.W.findIn K (.ref C_NoSights) "__getattr__" = some none)
    (td_NoSights : PySem.W.hasDictIn K C_NoSights = true)
    (ta_NoSights : PySem.W.findIn K (.ref C_NoSights) "__class__" = some (some (.builtin "object.__class__")))
    (tn_NoSights : PySem.W.specialIn K (.builtin "object.__class__") "__get__" = some (some (.builtin "getset_descriptor.__get__")))
    (tt_NoSights : PySem.W.takesIn K (.builtin "object.__class__") = some true)
    (tm_NoSights : PySem.W.mroIn K C_NoSights (.type "object") = some true)
    (te_NoSights : PySem.W.subIn K (.ref C_NoSights) (.ref C_TidesError) = some true)
    (t1_NoSights : PySem.W.subIn K (.ref C_NoSights) (.ref C_NoSights) = some true)
    (t2_NoSights : PySem.W.subIn K (.ref C_NoSights) (.ref C_NoNumber) = some false)
    (u2_NoSights : (Value.ref C_NoSights == Value.ref C_NoNumber) = false)
    (tg_NoNumber : PySem.W.findIn K (.ref C_NoNumber) "__getattribute__" = some (some (.builtin "BaseException.__getattribute__")))
    (tk_NoNumber : PySem.W.findIn K (.ref C_NoNumber) "__getattr__" = some none)
    (td_NoNumber : PySem.W.hasDictIn K C_NoNumber = true)
    (ta_NoNumber : PySem.W.findIn K (.ref C_NoNumber) "__class__" = some (some (.builtin "object.__class__")))
    (tn_NoNumber : PySem.W.specialIn K (.builtin "object.__class__") "__get__" = some (some (.builtin "getset_descriptor.__get__")))
    (tt_NoNumber : PySem.W.takesIn K (.builtin "object.__class__") = some true)
    (tm_NoNumber : PySem.W.mroIn K C_NoNumber (.type "object") = some true)
    (te_NoNumber : PySem.W.subIn K (.ref C_NoNumber) (.ref C_TidesError) = some true)
    (t1_NoNumber : PySem.W.subIn K (.ref C_NoNumber) (.ref C_NoSights) = some false)
    (u1_NoNumber : (Value.ref C_NoNumber == Value.ref C_NoSights) = false)
    (t2_NoNumber : PySem.W.subIn K (.ref C_NoNumber) (.ref C_NoNumber) = some true)
    (ti_NoNumber : PySem.W.isClsIn K C_NoNumber = true)
    (ty_NoNumber : PySem.W.typeIn K (.ref C_NoNumber) = some (.type "type"))
    (ti_NoSights : PySem.W.isClsIn K C_NoSights = true)
    (ty_NoSights : PySem.W.typeIn K (.ref C_NoSights) = some (.type "type"))
    (es_TE : PySem.W.subIn K (.ref C_TidesError) (.type "BaseException") = some true)
    (eh_TE : PySem.W.hasDictIn K C_TidesError = true)
    (ey_TE : PySem.W.typeIn K (.ref C_TidesError) = some (.type "type"))
    (a_law : PySem.W.nsIn K mainGlobals "law" = some (some (.ref f_law)))
    (l_law : K.lookup f_law = some ⟨oc_law, od_law, .func (PySem.W.fnOf "law" "law" (defArgs s_law) (defBody s_law) (defScope s_law) .none kV_law dc_law pm_law an_law (.ref cL) ct_law), sl_law⟩)
    (lC : K.lookup cL = some ⟨.type "code", odL, .fields vsL, slL⟩)
    (v11 : vsL[11]? = some (.ref PL))
    (g11 : vsL.getD 11 .none = .ref PL)
    (g18 : vsL.getD 18 .none = .str fiL tfL)
    (g7 : vsL.getD 7 .none = .int flL tgL)
    (g9 : vsL.getD 9 .none = .bool inL)
    (g10 : vsL.getD 10 .none = .int txL ttL)
    (neL : cL ≠ PL)
    (c_law : PySem.W.codeIn K (.ref cL) "law" = true)
    (hP : h.get? PL = some { cls := .none, data := .fields #[] }) (nP : K.lookup PL = none) : LamX.LawAtS l w K (L2.CX l.prog w) 10 63 "script" mg fa h := by
  have e := hfa.symm.trans (PySem.W.mg_of X G a_law)
  cases e
  have F_is_integer := fun_mk (st := s_is_integer) l_is_integer c_is_integer k_is_integer
  have F_is_between := fun_mk (st := s_is_between) l_is_between c_is_between k_is_between
  have F_is_tuple_of := fun_mk (st := s_is_tuple_of) l_is_tuple_of c_is_tuple_of k_is_tuple_of
  have F_is_fraction := fun_mk (st := s_is_fraction) l_is_fraction c_is_fraction k_is_fraction
  have F_at_most := fun_mk (st := s_at_most) l_at_most c_at_most k_at_most
  have F_is_threshold := fun_mk (st := s_is_threshold) l_is_threshold c_is_threshold k_is_threshold
  have F_is_list := fun_mk (st := s_is_list) l_is_list c_is_list k_is_list
  have F_is_width := fun_mk (st := s_is_width) l_is_width c_is_width k_is_width
  have F_is_widths := fun_mk (st := s_is_widths) l_is_widths c_is_widths k_is_widths
  have F_is_pipe := fun_mk (st := s_is_pipe) l_is_pipe c_is_pipe k_is_pipe
  have F_Web__init__ := fun_mk (st := s_Web__init__) l_Web__init__ c_Web__init__ k_Web__init__
  have F_is_sight := fun_mk (st := s_is_sight) l_is_sight c_is_sight k_is_sight
  have F_check_sights := fun_mk (st := s_check_sights) l_check_sights c_check_sights k_check_sights
  have F_bars_alone := fun_mk (st := s_bars_alone) l_bars_alone c_bars_alone k_bars_alone
  have F_amount := fun_mk (st := s_amount) l_amount c_amount k_amount
  have F_edges := fun_mk (st := s_edges) l_edges c_edges k_edges
  have F_clash_of := fun_mk (st := s_clash_of) l_clash_of c_clash_of k_clash_of
  have F_is_clash := fun_mk (st := s_is_clash) l_is_clash c_is_clash k_is_clash
  have F__law_source := fun_mk (st := s__law_source) l__law_source c__law_source k__law_source
  have F__law_mixed := fun_mk (st := s__law_mixed) l__law_mixed c__law_mixed k__law_mixed
  have F__law_draw := fun_mk (st := s__law_draw) l__law_draw c__law_draw k__law_draw
  have F__law_pick := fun_mk (st := s__law_pick) l__law_pick c__law_pick k__law_pick
  have F__law_divisor := fun_mk (st := s__law_divisor) l__law_divisor c__law_divisor k__law_divisor
  have F__law_made := fun_mk (st := s__law_made) l__law_made c__law_made k__law_made
  have F__law_same := fun_mk (st := s__law_same) l__law_same c__law_same k__law_same
  have F__law_integer := fun_mk (st := s__law_integer) l__law_integer c__law_integer k__law_integer
  have F__law_deep := fun_mk (st := s__law_deep) l__law_deep c__law_deep k__law_deep
  have F__law_strange := fun_mk (st := s__law_strange) l__law_strange c__law_strange k__law_strange
  have F__law_in_order := fun_mk (st := s__law_in_order) l__law_in_order c__law_in_order k__law_in_order
  have F__law_steps := fun_mk (st := s__law_steps) l__law_steps c__law_steps k__law_steps
  have F__law_added := fun_mk (st := s__law_added) l__law_added c__law_added k__law_added
  have F__law_flow := fun_mk (st := s__law_flow) l__law_flow c__law_flow k__law_flow
  have F__law_drop_near := fun_mk (st := s__law_drop_near) l__law_drop_near c__law_drop_near k__law_drop_near
  have F__law_sights := fun_mk (st := s__law_sights) l__law_sights c__law_sights k__law_sights
  have F__law_things := fun_mk (st := s__law_things) l__law_things c__law_things k__law_things
  have F__law_sight_alone := fun_mk (st := s__law_sight_alone) l__law_sight_alone c__law_sight_alone k__law_sight_alone
  have F__law_below := fun_mk (st := s__law_below) l__law_below c__law_below k__law_below
  have F__law_abs := fun_mk (st := s__law_abs) l__law_abs c__law_abs k__law_abs
  have F__law_sights_agree := fun_mk (st := s__law_sights_agree) l__law_sights_agree c__law_sights_agree k__law_sights_agree
  have F__law_some_list := fun_mk (st := s__law_some_list) l__law_some_list c__law_some_list k__law_some_list
  have F__law_due := fun_mk (st := s__law_due) l__law_due c__law_due k__law_due
  have F__law_met := fun_mk (st := s__law_met) l__law_met c__law_met k__law_met
  have F__law_told := fun_mk (st := s__law_told) l__law_told c__law_told k__law_told
  have F_BadWeb__init__ := fun_mk (st := sx_BadWeb) l_BadWeb__init__ c_BadWeb__init__ k_BadWeb__init__
  have oxf_BadWeb : L2.XfC K C_BadWeb := ⟨xga_BadWeb, xgg_BadWeb, xs_BadWeb, xhd_BadWeb⟩
  have F_NoSights__init__ := fun_mk (st := sx_NoSights) l_NoSights__init__ c_NoSights__init__ k_NoSights__init__
  have oxf_NoSights : L2.XfC K C_NoSights := ⟨xga_NoSights, xgg_NoSights, xs_NoSights, xhd_NoSights⟩
  have okw_Web : OkD K (.oth (.ref C_Web)) := by
    unfold OkD
    intro n hn
    have five : n = "int" ∨ n = "bool" ∨ n = "str" ∨ n = "tuple" ∨ n = "list" := by simpa [kinds] using hn
    rcases five with rfl | rfl | rfl | rfl | rfl
    · exact kit_bt (by decide +kernel) wint_Web
    · exact kit_bt (by decide +kernel) wbool_Web
    · exact kit_bt (by decide +kernel) wstr_Web
    · exact kit_bt (by decide +kernel) wtuple_Web
    · exact kit_bt (by decide +kernel) wlist_Web
  let T : Txt K mg := {
    f_is_integer := f_is_integer
    fd_is_integer := _
    F_is_integer := F_is_integer
    b_is_integer := F_is_integer.binds (ps := ["thing"]) fun _ _ _ _ _ _ us hl => match us, hl with | [_], _ => rfl
    g_is_integer := PySem.W.mg_of X G a_is_integer
    k_is_integer := k_is_integer
    f_is_between := f_is_between
    fd_is_between := _
    F_is_between := F_is_between
    b_is_between := F_is_between.binds (ps := ["low", "high", "thing"]) fun _ _ _ _ _ _ us hl => match us, hl with | [_, _, _], _ => rfl
    g_is_between := PySem.W.mg_of X G a_is_between
    k_is_between := k_is_between
    f_is_tuple_of := f_is_tuple_of
    fd_is_tuple_of := _
    F_is_tuple_of := F_is_tuple_of
    b_is_tuple_of := F_is_tuple_of.binds (ps := ["low", "high", "thing"]) fun _ _ _ _ _ _ us hl => match us, hl with | [_, _, _], _ => rfl
    g_is_tuple_of := PySem.W.mg_of X G a_is_tuple_of
    k_is_tuple_of := k_is_tuple_of
    f_is_fraction := f_is_fraction
    fd_is_fraction := _
    F_is_fraction := F_is_fraction
    b_is_fraction := F_is_fraction.binds (ps := ["thing"]) fun _ _ _ _ _ _ us hl => match us, hl with | [_], _ => rfl
    g_is_fraction := PySem.W.mg_of X G a_is_fraction
    k_is_fraction := k_is_fraction
    f_at_most := f_at_most
    fd_at_most := _
    F_at_most := F_at_most
    b_at_most := F_at_most.binds (ps := ["one", "other"]) fun _ _ _ _ _ _ us hl => match us, hl with | [_, _], _ => rfl
    g_at_most := PySem.W.mg_of X G a_at_most
    k_at_most := k_at_most
    f_is_threshold := f_is_threshold
    fd_is_threshold := _
    F_is_threshold := F_is_threshold
    b_is_threshold := F_is_threshold.binds (ps := ["thing"]) fun _ _ _ _ _ _ us hl => match us, hl with | [_], _ => rfl
    g_is_threshold := PySem.W.mg_of X G a_is_threshold
    k_is_threshold := k_is_threshold
    f_is_list := f_is_list
    fd_is_list := _
    F_is_list := F_is_list
    b_is_list := F_is_list.binds (ps := ["thing"]) fun _ _ _ _ _ _ us hl => match us, hl with | [_], _ => rfl
    g_is_list := PySem.W.mg_of X G a_is_list
    k_is_list := k_is_list
    f_is_width := f_is_width
    fd_is_width := _
    F_is_width := F_is_width
    b_is_width := F_is_width.binds (ps := ["thing"]) fun _ _ _ _ _ _ us hl => match us, hl with | [_], _ => rfl
    g_is_width := PySem.W.mg_of X G a_is_width
    k_is_width := k_is_width
    f_is_widths := f_is_widths
    fd_is_widths := _
    F_is_widths := F_is_widths
    b_is_widths := F_is_widths.binds (ps := ["thing"]) fun _ _ _ _ _ _ us hl => match us, hl with | [_], _ => rfl
    g_is_widths := PySem.W.mg_of X G a_is_widths
    k_is_widths := k_is_widths
    f_is_pipe := f_is_pipe
    fd_is_pipe := _
    F_is_pipe := F_is_pipe
    b_is_pipe := F_is_pipe.binds (ps := ["vessels", "thing"]) fun _ _ _ _ _ _ us hl => match us, hl with | [_, _], _ => rfl
    g_is_pipe := PySem.W.mg_of X G a_is_pipe
    k_is_pipe := k_is_pipe
    f_Web__init__ := f_Web__init__
    fd_Web__init__ := _
    F_Web__init__ := F_Web__init__
    b_Web__init__ := F_Web__init__.binds (ps := ["self", "widths", "pipes"]) fun _ _ _ _ _ _ us hl => match us, hl with | [_, _, _], _ => rfl
    f_is_sight := f_is_sight
    fd_is_sight := _
    F_is_sight := F_is_sight
    b_is_sight := F_is_sight.binds (ps := ["thing"]) fun _ _ _ _ _ _ us hl => match us, hl with | [_], _ => rfl
    g_is_sight := PySem.W.mg_of X G a_is_sight
    k_is_sight := k_is_sight
    f_check_sights := f_check_sights
    fd_check_sights := _
    F_check_sights := F_check_sights
    b_check_sights := F_check_sights.binds (ps := ["told", "many"]) fun _ _ _ _ _ _ us hl => match us, hl with | [_, _], _ => rfl
    g_check_sights := PySem.W.mg_of X G a_check_sights
    k_check_sights := k_check_sights
    f_bars_alone := f_bars_alone
    fd_bars_alone := _
    F_bars_alone := F_bars_alone
    b_bars_alone := F_bars_alone.binds (ps := ["many", "sight"]) fun _ _ _ _ _ _ us hl => match us, hl with | [_, _], _ => rfl
    g_bars_alone := PySem.W.mg_of X G a_bars_alone
    k_bars_alone := k_bars_alone
    f_amount := f_amount
    fd_amount := _
    F_amount := F_amount
    b_amount := F_amount.binds (ps := ["drop"]) fun _ _ _ _ _ _ us hl => match us, hl with | [_], _ => rfl
    g_amount := PySem.W.mg_of X G a_amount
    k_amount := k_amount
    f_edges := f_edges
    fd_edges := _
    F_edges := F_edges
    b_edges := F_edges.binds (ps := ["told", "number"]) fun _ _ _ _ _ _ us hl => match us, hl with | [_, _], _ => rfl
    g_edges := PySem.W.mg_of X G a_edges
    k_edges := k_edges
    f_clash_of := f_clash_of
    fd_clash_of := _
    F_clash_of := F_clash_of
    b_clash_of := F_clash_of.binds (ps := ["told", "many"]) fun _ _ _ _ _ _ us hl => match us, hl with | [_, _], _ => rfl
    g_clash_of := PySem.W.mg_of X G a_clash_of
    k_clash_of := k_clash_of
    f_is_clash := f_is_clash
    fd_is_clash := _
    F_is_clash := F_is_clash
    b_is_clash := F_is_clash.binds (ps := ["sights", "many", "thing"]) fun _ _ _ _ _ _ us hl => match us, hl with | [_, _, _], _ => rfl
    g_is_clash := PySem.W.mg_of X G a_is_clash
    k_is_clash := k_is_clash
    f__law_source := f__law_source
    fd__law_source := _
    F__law_source := F__law_source
    b__law_source := F__law_source.binds (ps := ["script"]) fun _ _ _ _ _ _ us hl => match us, hl with | [_], _ => rfl
    g__law_source := PySem.W.mg_of X G a__law_source
    k__law_source := k__law_source
    f__law_mixed := f__law_mixed
    fd__law_mixed := _
    F__law_mixed := F__law_mixed
    b__law_mixed := F__law_mixed.binds (ps := ["number", "turn"]) fun _ _ _ _ _ _ us hl => match us, hl with | [_, _], _ => rfl
    g__law_mixed := PySem.W.mg_of X G a__law_mixed
    k__law_mixed := k__law_mixed
    f__law_draw := f__law_draw
    fd__law_draw := _
    F__law_draw := F__law_draw
    b__law_draw := F__law_draw.binds (ps := ["source", "many"]) fun _ _ _ _ _ _ us hl => match us, hl with | [_, _], _ => rfl
    g__law_draw := PySem.W.mg_of X G a__law_draw
    k__law_draw := k__law_draw
    f__law_pick := f__law_pick
    fd__law_pick := _
    F__law_pick := F__law_pick
    b__law_pick := F__law_pick.binds (ps := ["source", "row"]) fun _ _ _ _ _ _ us hl => match us, hl with | [_, _], _ => rfl
    g__law_pick := PySem.W.mg_of X G a__law_pick
    k__law_pick := k__law_pick
    f__law_divisor := f__law_divisor
    fd__law_divisor := _
    F__law_divisor := F__law_divisor
    b__law_divisor := F__law_divisor.binds (ps := ["one", "other"]) fun _ _ _ _ _ _ us hl => match us, hl with | [_, _], _ => rfl
    g__law_divisor := PySem.W.mg_of X G a__law_divisor
    k__law_divisor := k__law_divisor
    f__law_made := f__law_made
    fd__law_made := _
    F__law_made := F__law_made
    b__law_made := F__law_made.binds (ps := ["top", "bottom"]) fun _ _ _ _ _ _ us hl => match us, hl with | [_, _], _ => rfl
    g__law_made := PySem.W.mg_of X G a__law_made
    k__law_made := k__law_made
    f__law_same := f__law_same
    fd__law_same := _
    F__law_same := F__law_same
    b__law_same := F__law_same.binds (ps := ["actual", "expected"]) fun _ _ _ _ _ _ us hl => match us, hl with | [_, _], _ => rfl
    g__law_same := PySem.W.mg_of X G a__law_same
    k__law_same := k__law_same
    f__law_integer := f__law_integer
    fd__law_integer := _
    F__law_integer := F__law_integer
    b__law_integer := F__law_integer.binds (ps := ["thing"]) fun _ _ _ _ _ _ us hl => match us, hl with | [_], _ => rfl
    g__law_integer := PySem.W.mg_of X G a__law_integer
    k__law_integer := k__law_integer
    f__law_deep := f__law_deep
    fd__law_deep := _
    F__law_deep := F__law_deep
    b__law_deep := F__law_deep.binds (ps := ["many"]) fun _ _ _ _ _ _ us hl => match us, hl with | [_], _ => rfl
    g__law_deep := PySem.W.mg_of X G a__law_deep
    k__law_deep := k__law_deep
    f__law_strange := f__law_strange
    fd__law_strange := _
    F__law_strange := F__law_strange
    b__law_strange := F__law_strange.binds (ps := ["source"]) fun _ _ _ _ _ _ us hl => match us, hl with | [_], _ => rfl
    g__law_strange := PySem.W.mg_of X G a__law_strange
    k__law_strange := k__law_strange
    f__law_in_order := f__law_in_order
    fd__law_in_order := _
    F__law_in_order := F__law_in_order
    b__law_in_order := F__law_in_order.binds (ps := ["steps"]) fun _ _ _ _ _ _ us hl => match us, hl with | [_], _ => rfl
    g__law_in_order := PySem.W.mg_of X G a__law_in_order
    k__law_in_order := k__law_in_order
    f__law_steps := f__law_steps
    fd__law_steps := _
    F__law_steps := F__law_steps
    b__law_steps := F__law_steps.binds (ps := ["source", "most", "wide"]) fun _ _ _ _ _ _ us hl => match us, hl with | [_, _, _], _ => rfl
    g__law_steps := PySem.W.mg_of X G a__law_steps
    k__law_steps := k__law_steps
    f__law_added := f__law_added
    fd__law_added := _
    F__law_added := F__law_added
    b__law_added := F__law_added.binds (ps := ["one", "other"]) fun _ _ _ _ _ _ us hl => match us, hl with | [_, _], _ => rfl
    g__law_added := PySem.W.mg_of X G a__law_added
    k__law_added := k__law_added
    f__law_flow := f__law_flow
    fd__law_flow := _
    F__law_flow := F__law_flow
    b__law_flow := F__law_flow.binds (ps := ["steps", "drop"]) fun _ _ _ _ _ _ us hl => match us, hl with | [_, _], _ => rfl
    g__law_flow := PySem.W.mg_of X G a__law_flow
    k__law_flow := k__law_flow
    f__law_drop_near := f__law_drop_near
    fd__law_drop_near := _
    F__law_drop_near := F__law_drop_near
    b__law_drop_near := F__law_drop_near.binds (ps := ["source", "steps"]) fun _ _ _ _ _ _ us hl => match us, hl with | [_, _], _ => rfl
    g__law_drop_near := PySem.W.mg_of X G a__law_drop_near
    k__law_drop_near := k__law_drop_near
    f__law_sights := f__law_sights
    fd__law_sights := _
    F__law_sights := F__law_sights
    b__law_sights := F__law_sights.binds (ps := ["source", "steps", "many"]) fun _ _ _ _ _ _ us hl => match us, hl with | [_, _, _], _ => rfl
    g__law_sights := PySem.W.mg_of X G a__law_sights
    k__law_sights := k__law_sights
    f__law_things := f__law_things
    fd__law_things := _
    F__law_things := F__law_things
    b__law_things := F__law_things.binds (ps := ["source", "many"]) fun _ _ _ _ _ _ us hl => match us, hl with | [_, _], _ => rfl
    g__law_things := PySem.W.mg_of X G a__law_things
    k__law_things := k__law_things
    f__law_sight_alone := f__law_sight_alone
    fd__law_sight_alone := _
    F__law_sight_alone := F__law_sight_alone
    b__law_sight_alone := F__law_sight_alone.binds (ps := ["sight", "many"]) fun _ _ _ _ _ _ us hl => match us, hl with | [_, _], _ => rfl
    g__law_sight_alone := PySem.W.mg_of X G a__law_sight_alone
    k__law_sight_alone := k__law_sight_alone
    f__law_below := f__law_below
    fd__law_below := _
    F__law_below := F__law_below
    b__law_below := F__law_below.binds (ps := ["one", "other"]) fun _ _ _ _ _ _ us hl => match us, hl with | [_, _], _ => rfl
    g__law_below := PySem.W.mg_of X G a__law_below
    k__law_below := k__law_below
    f__law_abs := f__law_abs
    fd__law_abs := _
    F__law_abs := F__law_abs
    b__law_abs := F__law_abs.binds (ps := ["one"]) fun _ _ _ _ _ _ us hl => match us, hl with | [_], _ => rfl
    g__law_abs := PySem.W.mg_of X G a__law_abs
    k__law_abs := k__law_abs
    f__law_sights_agree := f__law_sights_agree
    fd__law_sights_agree := _
    F__law_sights_agree := F__law_sights_agree
    b__law_sights_agree := F__law_sights_agree.binds (ps := ["one", "other"]) fun _ _ _ _ _ _ us hl => match us, hl with | [_, _], _ => rfl
    g__law_sights_agree := PySem.W.mg_of X G a__law_sights_agree
    k__law_sights_agree := k__law_sights_agree
    f__law_some_list := f__law_some_list
    fd__law_some_list := _
    F__law_some_list := F__law_some_list
    b__law_some_list := F__law_some_list.binds (ps := ["rows", "many"]) fun _ _ _ _ _ _ us hl => match us, hl with | [_, _], _ => rfl
    g__law_some_list := PySem.W.mg_of X G a__law_some_list
    k__law_some_list := k__law_some_list
    f__law_due := f__law_due
    fd__law_due := _
    F__law_due := F__law_due
    b__law_due := F__law_due.binds (ps := ["rows", "many", "thing"]) fun _ _ _ _ _ _ us hl => match us, hl with | [_, _, _], _ => rfl
    g__law_due := PySem.W.mg_of X G a__law_due
    k__law_due := k__law_due
    f__law_met := f__law_met
    fd__law_met := _
    F__law_met := F__law_met
    b__law_met := F__law_met.binds (ps := ["found", "due"]) fun _ _ _ _ _ _ us hl => match us, hl with | [_, _], _ => rfl
    g__law_met := PySem.W.mg_of X G a__law_met
    k__law_met := k__law_met
    f__law_told := f__law_told
    fd__law_told := _
    F__law_told := F__law_told
    b__law_told := F__law_told.binds (ps := ["action"]) fun _ _ _ _ _ _ us hl => match us, hl with | [_], _ => rfl
    g__law_told := PySem.W.mg_of X G a__law_told
    k__law_told := k__law_told
    Z := ⟨C_NoNumber, C_Web, C_TidesError, C_BadWeb, C_NoSights⟩
    fi_NoNumber := fi_NoNumber
    x_NoNumber := { gC := PySem.W.mg_of X G aC_NoNumber, cls := ⟨_, _, _, _, _, _, _, _, _, _, _, _, _, _, _, xL_NoNumber, xr_NoNumber⟩, iC := xi_NoNumber, tC := xt_NoNumber, kC := xk_NoNumber, exC := xs_NoNumber, tyC := xy_NoNumber, fn := ⟨_, _, _, _, _, _, _, _, _, _, xf_NoNumber, xc_NoNumber⟩ }
    fi_BadWeb := f_BadWeb__init__
    fdx_BadWeb := _
    Fx_BadWeb := F_BadWeb__init__
    bx_BadWeb := F_BadWeb__init__.binds (ps := ["self", "part"]) fun _ _ _ _ _ _ us hl => match us, hl with | [_, _], _ => rfl
    gx_BadWeb := PySem.W.mg_of X G aC_BadWeb
    ox_BadWeb := ⟨⟨_, _, _, _, _, _, _, _, _, _, _, _, _, _, _, xL_BadWeb, xr_BadWeb⟩, xsa_BadWeb, xs_BadWeb, xy_BadWeb, xk_BadWeb⟩
    xi_BadWeb := xi_BadWeb
    xt_BadWeb := xt_BadWeb
    no_BadWeb := no_BadWeb
    xf_BadWeb := oxf_BadWeb
    fi_NoSights := f_NoSights__init__
    fdx_NoSights := _
    Fx_NoSights := F_NoSights__init__
    bx_NoSights := F_NoSights__init__.binds (ps := ["self", "index"]) fun _ _ _ _ _ _ us hl => match us, hl with | [_, _], _ => rfl
    gx_NoSights := PySem.W.mg_of X G aC_NoSights
    ox_NoSights := ⟨⟨_, _, _, _, _, _, _, _, _, _, _, _, _, _, _, xL_NoSights, xr_NoSights⟩, xsa_NoSights, xs_NoSights, xy_NoSights, xk_NoSights⟩
    xi_NoSights := xi_NoSights
    xt_NoSights := xt_NoSights
    no_NoSights := no_NoSights
    xf_NoSights := oxf_NoSights
    cm_Web := ⟨wm_Web, a_Web__init__, wf_Web, wk_Web⟩
    gc_Web := PySem.W.mg_of X G aC_Web
    it_Web := ⟨⟨wp_Web, wd_Web, wo_Web, ws_Web⟩, wc_Web, wg_Web, wt_Web, wr_Web⟩
    ok_Web := okw_Web
    gc_TidesError := PySem.W.mg_of X G aC_TidesError
    na_Web_pipes := na_Web_pipes
    na_Web_widths := na_Web_widths
    z_abs := PySem.W.mg_none_of X G z_abs
    z_all := PySem.W.mg_none_of X G z_all
    z_bool := PySem.W.mg_none_of X G z_bool
    z_enumerate := PySem.W.mg_none_of X G z_enumerate
    z_int := PySem.W.mg_none_of X G z_int
    z_isinstance := PySem.W.mg_none_of X G z_isinstance
    z_len := PySem.W.mg_none_of X G z_len
    z_list := PySem.W.mg_none_of X G z_list
    z_range := PySem.W.mg_none_of X G z_range
    z_sorted := PySem.W.mg_none_of X G z_sorted
    z_str := PySem.W.mg_none_of X G z_str
    z_tuple := PySem.W.mg_none_of X G z_tuple
    z_zip := PySem.W.mg_none_of X G z_zip
    t_MOST_BOTTOM := t_MOST_BOTTOM
    c_MOST_BOTTOM := PySem.W.mg_of X G n_MOST_BOTTOM
    t_MOST_PIPES := t_MOST_PIPES
    c_MOST_PIPES := PySem.W.mg_of X G n_MOST_PIPES
    t_MOST_SIGHTS := t_MOST_SIGHTS
    c_MOST_SIGHTS := PySem.W.mg_of X G n_MOST_SIGHTS
    t_MOST_THRESHOLDS := t_MOST_THRESHOLDS
    c_MOST_THRESHOLDS := PySem.W.mg_of X G n_MOST_THRESHOLDS
    t_MOST_TOP := t_MOST_TOP
    c_MOST_TOP := PySem.W.mg_of X G n_MOST_TOP
    t_MOST_VESSELS := t_MOST_VESSELS
    c_MOST_VESSELS := PySem.W.mg_of X G n_MOST_VESSELS
    t_MOST_WIDTH := t_MOST_WIDTH
    c_MOST_WIDTH := PySem.W.mg_of X G n_MOST_WIDTH
    m_gcd := PySem.W.mg_of X G m_gcd }
  have LF : LawF K T.Z := ⟨⟨⟨tg_NoSights, tk_NoSights, xs_NoSights, td_NoSights, ta_NoSights, tn_NoSights, tt_NoSights, tm_NoSights⟩, PySem.W.exm_ref es_TE eh_TE ey_TE te_NoSights, kit_rt ti_NoSights ty_NoSights t1_NoSights, kit_rf u2_NoSights ti_NoNumber ty_NoNumber t2_NoSights⟩, ⟨⟨tg_NoNumber, tk_NoNumber, xs_NoNumber, td_NoNumber, ta_NoNumber, tn_NoNumber, tt_NoNumber, tm_NoNumber⟩, PySem.W.exm_ref es_TE eh_TE ey_TE te_NoNumber, kit_rf u1_NoNumber ti_NoSights ty_NoSights t1_NoNumber, kit_rt ti_NoNumber ty_NoNumber t2_NoNumber⟩, okw_Web⟩
  exact law_at T LF l_law c_law hP nP ⟨_, vsL, fiL, tfL, flL, tgL, inL, txL, ttL, X _ _ lC, rfl, rfl, v11, g11, g18, g7, g9, g10, neL⟩
end
end K86
open PySem PySem.W PyProof.Rows
set_option maxRecDepth 100000 in
set_option maxHeartbeats 0 in
theorem PySem.Challenge.cw_twotides_k86_clashes_judged_holds : PySem.Challenge.rw_twotides_k86_clashes_judged.Holds := by
  w_on; o_law; k_head; (case hw => w_witness2)
  k_fill
  refine LamX.walk_ofTs (l := PySem.Challenge.rw_twotides_k86_clashes_judged) (n := 63) (k := 10) (x := "script") (CX := fun w => L2.CX PySem.Challenge.rw_twotides_k86_clashes_judged.prog w) rfl (by decide) rfl ⟨rfl, by decide, by decide⟩ (fun w h Y => PySem.W.km_in_of Y) ?F K86.cx_none
  case F =>
    intro w mg fa h Y KX G hmg
    refine' K86.all_mk (K := _) KX G hmg ?aC_NoNumber ?aC_Web ?aC_TidesError ?aC_BadWeb ?aC_NoSights ?a_is_integer ?l_is_integer ?c_is_integer ?k_is_integer ?a_is_between ?l_is_between ?c_is_between ?k_is_between ?a_is_tuple_of ?l_is_tuple_of ?c_is_tuple_of ?k_is_tuple_of ?a_is_fraction ?l_is_fraction ?c_is_fraction ?k_is_fraction ?a_at_most ?l_at_most ?c_at_most ?k_at_most ?a_is_threshold ?l_is_threshold ?c_is_threshold ?k_is_threshold ?a_is_list ?l_is_list ?c_is_list ?k_is_list ?a_is_width ?l_is_width ?c_is_width ?k_is_width ?a_is_widths ?l_is_widths ?c_is_widths ?k_is_widths ?a_is_pipe ?l_is_pipe ?c_is_pipe ?k_is_pipe ?a_Web__init__ ?l_Web__init__ ?c_Web__init__ ?k_Web__init__ ?a_is_sight ?l_is_sight ?c_is_sight ?k_is_sight ?a_check_sights ?l_check_sights ?c_check_sights ?k_check_sights ?a_bars_alone ?l_bars_alone ?c_bars_alone ?k_bars_alone ?a_amount ?l_amount ?c_amount ?k_amount ?a_edges ?l_edges ?c_edges ?k_edges ?a_clash_of ?l_clash_of ?c_clash_of ?k_clash_of ?a_is_clash ?l_is_clash ?c_is_clash ?k_is_clash ?a__law_source ?l__law_source ?c__law_source ?k__law_source ?a__law_mixed ?l__law_mixed ?c__law_mixed ?k__law_mixed ?a__law_draw ?l__law_draw ?c__law_draw ?k__law_draw ?a__law_pick ?l__law_pick ?c__law_pick ?k__law_pick ?a__law_divisor ?l__law_divisor ?c__law_divisor ?k__law_divisor ?a__law_made ?l__law_made ?c__law_made ?k__law_made ?a__law_same ?l__law_same ?c__law_same ?k__law_same ?a__law_integer ?l__law_integer ?c__law_integer ?k__law_integer ?a__law_deep ?l__law_deep ?c__law_deep ?k__law_deep ?a__law_strange ?l__law_strange ?c__law_strange ?k__law_strange ?a__law_in_order ?l__law_in_order ?c__law_in_order ?k__law_in_order ?a__law_steps ?l__law_steps ?c__law_steps ?k__law_steps ?a__law_added ?l__law_added ?c__law_added ?k__law_added ?a__law_flow ?l__law_flow ?c__law_flow ?k__law_flow ?a__law_drop_near ?l__law_drop_near ?c__law_drop_near ?k__law_drop_near ?a__law_sights ?l__law_sights ?c__law_sights ?k__law_sights ?a__law_things ?l__law_things ?c__law_things ?k__law_things ?a__law_sight_alone ?l__law_sight_alone ?c__law_sight_alone ?k__law_sight_alone ?a__law_below ?l__law_below ?c__law_below ?k__law_below ?a__law_abs ?l__law_abs ?c__law_abs ?k__law_abs ?a__law_sights_agree ?l__law_sights_agree ?c__law_sights_agree ?k__law_sights_agree ?a__law_some_list ?l__law_some_list ?c__law_some_list ?k__law_some_list ?a__law_due ?l__law_due ?c__law_due ?k__law_due ?a__law_met ?l__law_met ?c__law_met ?k__law_met ?a__law_told ?l__law_told ?c__law_told ?k__law_told ?xL_NoNumber ?xr_NoNumber ?xi_NoNumber ?xt_NoNumber ?xk_NoNumber ?xs_NoNumber ?xy_NoNumber ?xf_NoNumber ?xc_NoNumber ?xL_BadWeb ?xr_BadWeb ?xi_BadWeb ?l_BadWeb__init__ ?c_BadWeb__init__ ?k_BadWeb__init__ ?xt_BadWeb ?xk_BadWeb ?xs_BadWeb ?xy_BadWeb ?xsa_BadWeb ?xga_BadWeb ?xgg_BadWeb ?xhd_BadWeb ?no_BadWeb ?xL_NoSights ?xr_NoSights ?xi_NoSights ?l_NoSights__init__ ?c_NoSights__init__ ?k_NoSights__init__ ?xt_NoSights ?xk_NoSights ?xs_NoSights ?xy_NoSights ?xsa_NoSights ?xga_NoSights ?xgg_NoSights ?xhd_NoSights ?no_NoSights ?wm_Web ?wf_Web ?wk_Web ?wp_Web ?wd_Web ?wo_Web ?ws_Web ?wc_Web ?wg_Web ?wt_Web ?wr_Web ?wint_Web ?wbool_Web ?wstr_Web ?wtuple_Web ?wlist_Web ?na_Web_pipes ?na_Web_widths ?z_abs ?z_all ?z_bool ?z_enumerate ?z_int ?z_isinstance ?z_len ?z_list ?z_range ?z_sorted ?z_str ?z_tuple ?z_zip ?n_MOST_BOTTOM ?n_MOST_PIPES ?n_MOST_SIGHTS ?n_MOST_THRESHOLDS ?n_MOST_TOP ?n_MOST_VESSELS ?n_MOST_WIDTH ?m_gcd ?tg_NoSights ?tk_NoSights ?td_NoSights ?ta_NoSights ?tn_NoSights ?tt_NoSights ?tm_NoSights ?te_NoSights ?t1_NoSights ?t2_NoSights ?u2_NoSights ?tg_NoNumber ?tk_NoNumber ?td_NoNumber ?ta_NoNumber ?tn_NoNumber ?tt_NoNumber ?tm_NoNumber ?te_NoNumber ?t1_NoNumber ?u1_NoNumber ?t2_NoNumber ?ti_NoNumber ?ty_NoNumber ?ti_NoSights ?ty_NoSights ?es_TE ?eh_TE ?ey_TE ?a_law ?l_law ?lC ?v11 ?g11 ?g18 ?g7 ?g9 ?g10 ?neL ?c_law ?hP ?nP
    (case aC_NoNumber => k_is)
    (case aC_Web => k_is)
    (case aC_TidesError => k_is)
    (case aC_BadWeb => k_is)
    (case aC_NoSights => k_is)
    (case a_is_integer => k_is)
    (case l_is_integer => k_is)
    (case c_is_integer => k_is)
    (case k_is_integer => k_is)
    (case a_is_between => k_is)
    (case l_is_between => k_is)
    (case c_is_between => k_is)
    (case k_is_between => k_is)
    (case a_is_tuple_of => k_is)
    (case l_is_tuple_of => k_is)
    (case c_is_tuple_of => k_is)
    (case k_is_tuple_of => k_is)
    (case a_is_fraction => k_is)
    (case l_is_fraction => k_is)
    (case c_is_fraction => k_is)
    (case k_is_fraction => k_is)
    (case a_at_most => k_is)
    (case l_at_most => k_is)
    (case c_at_most => k_is)
    (case k_at_most => k_is)
    (case a_is_threshold => k_is)
    (case l_is_threshold => k_is)
    (case c_is_threshold => k_is)
    (case k_is_threshold => k_is)
    (case a_is_list => k_is)
    (case l_is_list => k_is)
    (case c_is_list => k_is)
    (case k_is_list => k_is)
    (case a_is_width => k_is)
    (case l_is_width => k_is)
    (case c_is_width => k_is)
    (case k_is_width => k_is)
    (case a_is_widths => k_is)
    (case l_is_widths => k_is)
    (case c_is_widths => k_is)
    (case k_is_widths => k_is)
    (case a_is_pipe => k_is)
    (case l_is_pipe => k_is)
    (case c_is_pipe => k_is)
    (case k_is_pipe => k_is)
    (case a_Web__init__ => k_is)
    (case l_Web__init__ => k_is)
    (case c_Web__init__ => k_is)
    (case k_Web__init__ => k_is)
    (case a_is_sight => k_is)
    (case l_is_sight => k_is)
    (case c_is_sight => k_is)
    (case k_is_sight => k_is)
    (case a_check_sights => k_is)
    (case l_check_sights => k_is)
    (case c_check_sights => k_is)
    (case k_check_sights => k_is)
    (case a_bars_alone => k_is)
    (case l_bars_alone => k_is)
    (case c_bars_alone => k_is)
    (case k_bars_alone => k_is)
    (case a_amount => k_is)
    (case l_amount => k_is)
    (case c_amount => k_is)
    (case k_amount => k_is)
    (case a_edges => k_is)
    (case l_edges => k_is)
    (case c_edges => k_is)
    (case k_edges => k_is)
    (case a_clash_of => k_is)
    (case l_clash_of => k_is)
    (case c_clash_of => k_is)
    (case k_clash_of => k_is)
    (case a_is_clash => k_is)
    (case l_is_clash => k_is)
    (case c_is_clash => k_is)
    (case k_is_clash => k_is)
    (case a__law_source => k_is)
    (case l__law_source => k_is)
    (case c__law_source => k_is)
    (case k__law_source => k_is)
    (case a__law_mixed => k_is)
    (case l__law_mixed => k_is)
    (case c__law_mixed => k_is)
    (case k__law_mixed => k_is)
    (case a__law_draw => k_is)
    (case l__law_draw => k_is)
    (case c__law_draw => k_is)
    (case k__law_draw => k_is)
    (case a__law_pick => k_is)
    (case l__law_pick => k_is)
    (case c__law_pick => k_is)
    (case k__law_pick => k_is)
    (case a__law_divisor => k_is)
    (case l__law_divisor => k_is)
    (case c__law_divisor => k_is)
    (case k__law_divisor => k_is)
    (case a__law_made => k_is)
    (case l__law_made => k_is)
    (case c__law_made => k_is)
    (case k__law_made => k_is)
    (case a__law_same => k_is)
    (case l__law_same => k_is)
    (case c__law_same => k_is)
    (case k__law_same => k_is)
    (case a__law_integer => k_is)
    (case l__law_integer => k_is)
    (case c__law_integer => k_is)
    (case k__law_integer => k_is)
    (case a__law_deep => k_is)
    (case l__law_deep => k_is)
    (case c__law_deep => k_is)
    (case k__law_deep => k_is)
    (case a__law_strange => k_is)
    (case l__law_strange => k_is)
    (case c__law_strange => k_is)
    (case k__law_strange => k_is)
    (case a__law_in_order => k_is)
    (case l__law_in_order => k_is)
    (case c__law_in_order => k_is)
    (case k__law_in_order => k_is)
    (case a__law_steps => k_is)
    (case l__law_steps => k_is)
    (case c__law_steps => k_is)
    (case k__law_steps => k_is)
    (case a__law_added => k_is)
    (case l__law_added => k_is)
    (case c__law_added => k_is)
    (case k__law_added => k_is)
    (case a__law_flow => k_is)
    (case l__law_flow => k_is)
    (case c__law_flow => k_is)
    (case k__law_flow => k_is)
    (case a__law_drop_near => k_is)
    (case l__law_drop_near => k_is)
    (case c__law_drop_near => k_is)
    (case k__law_drop_near => k_is)
    (case a__law_sights => k_is)
    (case l__law_sights => k_is)
    (case c__law_sights => k_is)
    (case k__law_sights => k_is)
    (case a__law_things => k_is)
    (case l__law_things => k_is)
    (case c__law_things => k_is)
    (case k__law_things => k_is)
    (case a__law_sight_alone => k_is)
    (case l__law_sight_alone => k_is)
    (case c__law_sight_alone => k_is)
    (case k__law_sight_alone => k_is)
    (case a__law_below => k_is)
    (case l__law_below => k_is)
    (case c__law_below => k_is)
    (case k__law_below => k_is)
    (case a__law_abs => k_is)
    (case l__law_abs => k_is)
    (case c__law_abs => k_is)
    (case k__law_abs => k_is)
    (case a__law_sights_agree => k_is)
    (case l__law_sights_agree => k_is)
    (case c__law_sights_agree => k_is)
    (case k__law_sights_agree => k_is)
    (case a__law_some_list => k_is)
    (case l__law_some_list => k_is)
    (case c__law_some_list => k_is)
    (case k__law_some_list => k_is)
    (case a__law_due => k_is)
    (case l__law_due => k_is)
    (case c__law_due => k_is)
    (case k__law_due => k_is)
    (case a__law_met => k_is)
    (case l__law_met => k_is)
    (case c__law_met => k_is)
    (case k__law_met => k_is)
    (case a__law_told => k_is)
    (case l__law_told => k_is)
    (case c__law_told => k_is)
    (case k__law_told => k_is)
    (case xL_NoNumber => k_is)
    (case xr_NoNumber => decide +kernel)
    (case xi_NoNumber => k_is)
    (case xt_NoNumber => k_is)
    (case xk_NoNumber => k_is)
    (case xs_NoNumber => k_is)
    (case xy_NoNumber => k_is)
    (case xf_NoNumber => k_is)
    (case xc_NoNumber => k_is)
    (case xL_BadWeb => k_is)
    (case xr_BadWeb => decide +kernel)
    (case xi_BadWeb => k_is)
    (case l_BadWeb__init__ => k_is)
    (case c_BadWeb__init__ => k_is)
    (case k_BadWeb__init__ => k_is)
    (case xt_BadWeb => k_is)
    (case xk_BadWeb => k_is)
    (case xs_BadWeb => k_is)
    (case xy_BadWeb => k_is)
    (case xsa_BadWeb => k_is)
    (case xga_BadWeb => k_is)
    (case xgg_BadWeb => k_is)
    (case xhd_BadWeb => k_is)
    (case no_BadWeb => k_is)
    (case xL_NoSights => k_is)
    (case xr_NoSights => decide +kernel)
    (case xi_NoSights => k_is)
    (case l_NoSights__init__ => k_is)
    (case c_NoSights__init__ => k_is)
    (case k_NoSights__init__ => k_is)
    (case xt_NoSights => k_is)
    (case xk_NoSights => k_is)
    (case xs_NoSights => k_is)
    (case xy_NoSights => k_is)
    (case xsa_NoSights => k_is)
    (case xga_NoSights => k_is)
    (case xgg_NoSights => k_is)
    (case xhd_NoSights => k_is)
    (case no_NoSights => k_is)
    (case wm_Web => k_is)
    (case wf_Web => k_is)
    (case wk_Web => k_is)
    (case wp_Web => k_is)
    (case wd_Web => k_is)
    (case wo_Web => k_is)
    (case ws_Web => k_is)
    (case wc_Web => k_is)
    (case wg_Web => k_is)
    (case wt_Web => k_is)
    (case wr_Web => k_is)
    (case wint_Web => k_is)
    (case wbool_Web => k_is)
    (case wstr_Web => k_is)
    (case wtuple_Web => k_is)
    (case wlist_Web => k_is)
    (case na_Web_pipes => k_is)
    (case na_Web_widths => k_is)
    (case z_abs => k_is)
    (case z_all => k_is)
    (case z_bool => k_is)
    (case z_enumerate => k_is)
    (case z_int => k_is)
    (case z_isinstance => k_is)
    (case z_len => k_is)
    (case z_list => k_is)
    (case z_range => k_is)
    (case z_sorted => k_is)
    (case z_str => k_is)
    (case z_tuple => k_is)
    (case z_zip => k_is)
    (case n_MOST_BOTTOM => k_is)
    (case n_MOST_PIPES => k_is)
    (case n_MOST_SIGHTS => k_is)
    (case n_MOST_THRESHOLDS => k_is)
    (case n_MOST_TOP => k_is)
    (case n_MOST_VESSELS => k_is)
    (case n_MOST_WIDTH => k_is)
    (case m_gcd => k_is)
    (case tg_NoSights => k_is)
    (case tk_NoSights => k_is)
    (case td_NoSights => k_is)
    (case ta_NoSights => k_is)
    (case tn_NoSights => k_is)
    (case tt_NoSights => k_is)
    (case tm_NoSights => k_is)
    (case te_NoSights => k_is)
    (case t1_NoSights => k_is)
    (case t2_NoSights => k_is)
    (case u2_NoSights => decide +kernel)
    (case tg_NoNumber => k_is)
    (case tk_NoNumber => k_is)
    (case td_NoNumber => k_is)
    (case ta_NoNumber => k_is)
    (case tn_NoNumber => k_is)
    (case tt_NoNumber => k_is)
    (case tm_NoNumber => k_is)
    (case te_NoNumber => k_is)
    (case t1_NoNumber => k_is)
    (case u1_NoNumber => decide +kernel)
    (case t2_NoNumber => k_is)
    (case ti_NoNumber => k_is)
    (case ty_NoNumber => k_is)
    (case ti_NoSights => k_is)
    (case ty_NoSights => k_is)
    (case es_TE => k_is)
    (case eh_TE => k_is)
    (case ey_TE => k_is)
    (case a_law => k_is)
    (case l_law => k_is)
    (case lC => k_is)
    (case v11 => rfl)
    (case g11 => rfl)
    (case g18 => rfl)
    (case g7 => rfl)
    (case g9 => rfl)
    (case g10 => rfl)
    (case neL => decide)
    (case c_law => k_is)
    (case hP => exact PySem.W.km_tabs_of Y _ (List.mem_cons_self ..))
    (case nP => first | rfl | kernel_rfl)
