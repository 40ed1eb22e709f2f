import PyProof.Rows.All
import Wide.All
import OpenK.AllK
import Wide.FinOn
import HandS.ForMost
import HandS.ForExc
import HandS.IsInst
import HandS.Zip
import HandS.Gcd
import HandS.Wide
import KE.SortData
import HandS.ExcIs
import HandS.Lambda
import HandS.EndTab
import HandS.Flt
import HandS.ExcField
import HandS.ExcInit
import KE.KExcIs
import HandS.TupAny
import HandS.TupLe
import HandS.Iter
import HandS.Deep
import HandS.OwnEq
import HandS.SlotsOwn
import KE.DataFind
import KE.GoesZip
import KE.GoesMore
import HandS.Conv
import HandS.Star
import HandS.SetFor
import HandS.TupMul
import HandS.Style
import HandS.SetKeys
import HandS.WordsDict
import KE.DataMinMax
import PySem.Challenge.RW_twotides_k55_whole_stars_rows_and_rings
set_option Elab.async false
set_option linter.all false
set_option maxRecDepth 100000
set_option maxHeartbeats 4000000
namespace L3
open PySem PySem.Spec PyProof.Rows L2

/-! ## data -/
inductive D where
  | non | bl (b : Bool) | int (i : Int) | str (x : Str) | tup (ds : List D) | lst (ds : List D) | fl (ds : List D) | ty (n : String) | oth (t : Value) | ins (C : Addr) (fs : List (Str × D)) | adr (q : Addr) | dc (kvs : List (Key × D)) | dtc (kvs : List (List Key × D))

mutual
inductive Rep (K : PySem.W.Frag) (F : Hp) : V → D → Prop
  | non : Rep K F .non .non
  | bl (b : Bool) : Rep K F (.bl b) (.bl b)
  | int (i : Int) : Rep K F (.int i) (.int i)
  | str (x : Str) : Rep K F (.str x) (.str x)
  | tup {a : Addr} {xs : List V} {ds : List D} : SqT K F a xs → Reps K F xs ds → Rep K F (.ref a) (.tup ds)
  | lst {a : Addr} {xs : List V} {ds : List D} : F a = some (.lst xs) → Reps K F xs ds → Rep K F (.ref a) (.lst ds)
  | fl {a : Addr} {xs : List V} {ds : List D} : SqL K F a xs → Reps K F xs ds → Rep K F (.ref a) (.fl ds)
  | ty (n : String) : Rep K F (.ty n) (.ty n)
  | oth {a : Addr} {t : Value} : TyX K F (.ref a) t → Rep K F (.ref a) (.oth t)
  | ins {a C dx : Addr} {fs : List (Str × V)} {ds : List (Str × D)} : F a = some (.ins C dx fs) → FRep K F fs ds → Rep K F (.ref a) (.ins C ds)
  | adr (q : Addr) : Rep K F (.ref q) (.adr q)
  | dc {a : Addr} {od : Obj} {vs : List (Key × V)} {ds : List (Key × D)} : F a = some (.frz od (.dK vs)) → KRep K F vs ds → Rep K F (.ref a) (.dc ds)
  | dtc {a : Addr} {od : Obj} {vs : List (List Key × V)} {ds : List (List Key × D)} : F a = some (.frz od (.dT vs)) → TRep K F vs ds → Rep K F (.ref a) (.dtc ds)
inductive Reps (K : PySem.W.Frag) (F : Hp) : List V → List D → Prop
  | nil : Reps K F [] []
  | cons {v : V} {vs : List V} {d : D} {ds : List D} : Rep K F v d → Reps K F vs ds → Reps K F (v :: vs) (d :: ds)
inductive FRep (K : PySem.W.Frag) (F : Hp) : List (Str × V) → List (Str × D) → Prop
  | nil : FRep K F [] []
  | cons {f : Str} {v : V} {d : D} {vs : List (Str × V)} {ds : List (Str × D)} : Rep K F v d → FRep K F vs ds → FRep K F ((f, v) :: vs) ((f, d) :: ds)
inductive KRep (K : PySem.W.Frag) (F : Hp) : List (Key × V) → List (Key × D) → Prop
  | nil : KRep K F [] []
  | cons {k : Key} {v : V} {d : D} {vs : List (Key × V)} {ds : List (Key × D)} : Rep K F v d → KRep K F vs ds → KRep K F ((k, v) :: vs) ((k, d) :: ds)
inductive TRep (K : PySem.W.Frag) (F : Hp) : List (List Key × V) → List (List Key × D) → Prop
  | nil : TRep K F [] []
  | cons {k : List Key} {v : V} {d : D} {vs : List (List Key × V)} {ds : List (List Key × D)} : Rep K F v d → TRep K F vs ds → TRep K F ((k, v) :: vs) ((k, d) :: ds)
end

theorem SqT_mono {K : PySem.W.Frag} {F F' : Hp} {a : Addr} {xs : List V} (s : Same F F') (h : SqT K F a xs) : SqT K F' a xs := by
  rcases h with (h | ⟨o, h⟩) | h
  · exact .inl (.inl (s _ _ h))
  · exact .inl (.inr ⟨o, s _ _ h⟩)
  · exact .inr h
theorem TyX_mono {K : PySem.W.Frag} {F F' : Hp} {v : V} {t : Value} (s : Same F F') (h : TyX K F v t) : TyX K F' v t := by
  cases h with
  | base h =>
    refine .base ?_
    cases h with
    | non => exact .non
    | bl x => exact .bl x
    | int x => exact .int x
    | str x => exact .str x
    | flt x => exact .flt x
    | lst e => exact .lst (s _ _ e)
    | frz e => exact .frz (s _ _ e)
    | tup e => exact .tup (s _ _ e)
    | dK e => exact .dK (s _ _ e)
    | dT e => exact .dT (s _ _ e)
    | ins e cl ha hn ht hm => exact .ins (s _ _ e) cl ha hn ht hm
  | byt b => exact .byt b
  | set e => exact .set (s _ _ e)
  | kList e c => exact .kList e c
  | kTuple e c => exact .kTuple e c
  | kDict e c => exact .kDict e c
  | fTuple e => exact .fTuple (s _ _ e)
  | fDict e => exact .fDict (s _ _ e)
mutual
theorem Rep.mono {K : PySem.W.Frag} {F F' : Hp} (s : Same F F') : ∀ {v : V} {d : D}, Rep K F v d → Rep K F' v d
  | _, _, .non => .non
  | _, _, .bl b => .bl b
  | _, _, .int i => .int i
  | _, _, .str x => .str x
  | _, _, .tup h r => .tup (SqT_mono s h) (Reps.mono s r)
  | _, _, .lst h r => .lst (s _ _ h) (Reps.mono s r)
  | _, _, .fl h r => .fl (s.seq h) (Reps.mono s r)
  | _, _, .ty n => .ty n
  | _, _, .oth h => .oth (TyX_mono s h)
  | _, _, .ins h r => .ins (s _ _ h) (FRep.mono s r)
  | _, _, .adr q => .adr q
  | _, _, .dc h r => .dc (s _ _ h) (KRep.mono s r)
  | _, _, .dtc h r => .dtc (s _ _ h) (TRep.mono s r)
theorem Reps.mono {K : PySem.W.Frag} {F F' : Hp} (s : Same F F') : ∀ {vs : List V} {ds : List D}, Reps K F vs ds → Reps K F' vs ds
  | _, _, .nil => .nil
  | _, _, .cons h r => .cons (Rep.mono s h) (Reps.mono s r)
theorem FRep.mono {K : PySem.W.Frag} {F F' : Hp} (s : Same F F') : ∀ {vs : List (Str × V)} {ds : List (Str × D)}, FRep K F vs ds → FRep K F' vs ds
  | _, _, .nil => .nil
  | _, _, .cons h r => .cons (Rep.mono s h) (FRep.mono s r)
theorem KRep.mono {K : PySem.W.Frag} {F F' : Hp} (s : Same F F') : ∀ {vs : List (Key × V)} {ds : List (Key × D)}, KRep K F vs ds → KRep K F' vs ds
  | _, _, .nil => .nil
  | _, _, .cons h r => .cons (Rep.mono s h) (KRep.mono s r)
theorem TRep.mono {K : PySem.W.Frag} {F F' : Hp} (s : Same F F') : ∀ {vs : List (List Key × V)} {ds : List (List Key × D)}, TRep K F vs ds → TRep K F' vs ds
  | _, _, .nil => .nil
  | _, _, .cons h r => .cons (Rep.mono s h) (TRep.mono s r)
end
theorem Reps.length {K : PySem.W.Frag} {F : Hp} : ∀ {vs : List V} {ds : List D}, Reps K F vs ds → vs.length = ds.length
  | _, _, .nil => rfl
  | _, _, .cons _ r => by rw [List.length_cons, List.length_cons, Reps.length r]
theorem Reps.get {K : PySem.W.Frag} {F : Hp} : ∀ {vs : List V} {ds : List D} {i : Nat} {v : V}, Reps K F vs ds → vs[i]? = some v → ∃ d, ds[i]? = some d ∧ Rep K F v d
  | _, _, _, _, .nil, e => by simp at e
  | _, _, 0, _, .cons r _, e => by simp at e; subst e; exact ⟨_, rfl, r⟩
  | _, _, i + 1, x, .cons _ t, e => by
    obtain ⟨u, h1, h2⟩ := Reps.get (i := i) (v := x) t (by simpa using e)
    exact ⟨u, by simpa using h1, h2⟩
theorem Reps.getD {K : PySem.W.Frag} {F : Hp} : ∀ {vs : List V} {ds : List D} {i : Nat} {d : D}, Reps K F vs ds → ds[i]? = some d → ∃ v, vs[i]? = some v ∧ Rep K F v d
  | _, _, _, _, .nil, e => by simp at e
  | _, _, 0, _, .cons r _, e => by simp at e; subst e; exact ⟨_, rfl, r⟩
  | _, _, i + 1, x, .cons _ t, e => by
    obtain ⟨u, h1, h2⟩ := Reps.getD (i := i) (d := x) t (by simpa using e)
    exact ⟨u, by simpa using h1, h2⟩
theorem Reps.append {K : PySem.W.Frag} {F : Hp} : ∀ {vs ws : List V} {ds es : List D}, Reps K F vs ds → Reps K F ws es → Reps K F (vs ++ ws) (ds ++ es)
  | _, _, _, _, .nil, r => r
  | _, _, _, _, .cons h t, r => .cons h (Reps.append t r)
theorem Reps.take {K : PySem.W.Frag} {F : Hp} : ∀ {vs : List V} {ds : List D} (n : Nat), Reps K F vs ds → Reps K F (vs.take n) (ds.take n)
  | _, _, 0, _ => .nil
  | _, _, _ + 1, .nil => .nil
  | _, _, n + 1, .cons h t => .cons h (Reps.take n t)
theorem Reps.drop {K : PySem.W.Frag} {F : Hp} : ∀ {vs : List V} {ds : List D} (n : Nat), Reps K F vs ds → Reps K F (vs.drop n) (ds.drop n)
  | _, _, 0, r => r
  | _, _, _ + 1, .nil => .nil
  | _, _, n + 1, .cons h t => Reps.drop n t
theorem Reps.set {K : PySem.W.Frag} {F : Hp} {v : V} {d : D} (h : Rep K F v d) : ∀ {vs : List V} {ds : List D} (n : Nat), Reps K F vs ds → Reps K F (vs.set n v) (ds.set n d)
  | _, _, _, .nil => .nil
  | _, _, 0, .cons _ t => .cons h t
  | _, _, n + 1, .cons g t => .cons g (Reps.set h n t)
theorem Reps.ints {K : PySem.W.Frag} {F : Hp} : ∀ {ns : List Int}, Reps K F (ns.map V.int) (ns.map D.int)
  | [] => .nil
  | n :: ns => .cons (.int n) (Reps.ints (ns := ns))
theorem Reps.bls {K : PySem.W.Frag} {F : Hp} : ∀ {bs : List Bool} {vs : List V}, Reps K F vs (bs.map D.bl) → vs = bs.map V.bl
  | [], _, .nil => rfl
  | b :: bs, _, .cons h t => by
    cases h
    show _ :: _ = _ :: _
    rw [Reps.bls t]
theorem Reps.intsV {K : PySem.W.Frag} {F : Hp} : ∀ {ns : List Int} {vs : List V}, Reps K F vs (ns.map D.int) → vs = ns.map V.int
  | [], _, .nil => rfl
  | n :: ns, _, .cons h t => by
    cases h
    show _ :: _ = _ :: _
    rw [Reps.intsV t]

/-- the type of a thing -/
def tyD : D → Value
  | .non => .type "NoneType" | .bl _ => .type "bool" | .int _ => .type "int" | .str _ => .type "str" | .tup _ => .type "tuple" | .lst _ => .type "list" | .fl _ => .type "list" | .ty _ => .type "type" | .oth t => t | .ins C _ => .ref C | .adr _ => .type "list" | .dc _ => .type "dict" | .dtc _ => .type "dict"
def noTy : D → Prop | .ty _ => False | .ins _ _ => False | .adr _ => False | .dc _ => False | .dtc _ => False | _ => True
theorem Rep.tyX {K : PySem.W.Frag} {F : Hp} {v : V} {d : D} (h : Rep K F v d) (n : noTy d) : TyX K F v (tyD d) := by
  cases h with
  | non => exact .base .non
  | bl b => exact .base (.bl b)
  | int i => exact .base (.int i)
  | str x => exact .base (.str x)
  | tup h _ =>
    rcases h with (h | ⟨o, h⟩) | ⟨o, its, n, h, c, _⟩
    · exact .base (.tup h)
    · exact .fTuple h
    · exact .kTuple h c
  | lst h _ => exact .base (.lst h)
  | fl h _ =>
    rcases h with (h | ⟨o, h⟩) | ⟨o, its, n, h, c, _⟩
    · exact .base (.lst h)
    · exact .base (.frz h)
    · exact .kList h c
  | ty n => exact n.elim
  | oth h => exact h
  | ins _ _ => exact n.elim
  | adr _ => exact n.elim
  | dc _ _ => exact n.elim
  | dtc _ _ => exact n.elim

/-! ## the state -/
inductive Cont where
  | lst (ds : List D) | obj (C dx : Addr) (fs : List (Str × D)) | pool (a b : Int) (q : Addr) (ns : List Int) | dl (kvs : List (Key × Addr × List Int)) | dk (kvs : List (Key × D)) | dt (kvs : List (List Key × D)) | st (S : Int → Bool) (n : Nat)
inductive Cell where
  | any | dat (d : D) | own (p : Addr) (c : Cont)
/-- no table of code objects -/
def NT (o : HO) : Prop := ∀ ps, o ≠ .tbl ps
theorem nt_lst {xs : List V} : NT (.lst xs) := fun ps z => by cases z
theorem nt_xd {xs : List (Str × V)} : NT (.xd xs) := fun ps z => by cases z
theorem nt_ins {C dx : Addr} {fs : List (Str × V)} : NT (.ins C dx fs) := fun ps z => by cases z
inductive CRep (K : PySem.W.Frag) (F : Hp) : HO → Cont → Prop
  | lst {vs : List V} {ds : List D} : Reps K F vs ds → CRep K F (.lst vs) (.lst ds)
  | obj {C dx : Addr} {vs : List (Str × V)} {ds : List (Str × D)} : FRep K F vs ds → CRep K F (.ins C dx vs) (.obj C dx ds)
  | pool {a b : Int} {q : Addr} {ns : List Int} : CRep K F (.lst [.int a, .int b, .ref q]) (.pool a b q ns)
  | dl {kvs : List (Key × Addr × List Int)} : CRep K F (.dK (kvs.map fun x => (x.1, V.ref x.2.1))) (.dl kvs)
  | dk {vs : List (Key × V)} {ds : List (Key × D)} : KRep K F vs ds → CRep K F (.dK vs) (.dk ds)
  | dt {vs : List (List Key × V)} {ds : List (List Key × D)} : TRep K F vs ds → CRep K F (.dT vs) (.dt ds)
  | st {S : Int → Bool} {n : Nat} : CRep K F (.set S n) (.st S n)
theorem CRep.mono {K : PySem.W.Frag} {F F' : Hp} {o : HO} {c : Cont} (s : Same F F') (h : CRep K F o c) : CRep K F' o c := by
  cases h with
  | lst r => exact .lst (r.mono s)
  | obj r => exact .obj (r.mono s)
  | pool => exact .pool
  | dl => exact .dl
  | dk r => exact .dk (r.mono s)
  | dt r => exact .dt (r.mono s)
  | st => exact .st
theorem CRep.nt {K : PySem.W.Frag} {F : Hp} {o : HO} {c : Cont} (h : CRep K F o c) : NT o := by
  cases h with
  | lst r => exact nt_lst
  | obj r => exact nt_ins
  | pool => exact nt_lst
  | dl => exact fun ps z => by cases z
  | dk r => exact fun ps z => by cases z
  | dt r => exact fun ps z => by cases z
  | st => exact fun ps z => by cases z
/-- what else belongs to an own thing -/
def Foot : Cont → Addr → Prop
  | .pool _ _ q _, a => a = q
  | .dl kvs, a => ∃ x ∈ kvs, a = x.2.1
  | _, _ => False
/-- the addresses that a cell has for its own -/
def Has : Cell → Addr → Prop
  | .own p k, a => a = p ∨ Foot k a
  | _, _ => False
def SubOk (F H : Hp) (p : Addr) : Cont → Prop
  | .pool _ _ q ns => q ≠ p ∧ F q = none ∧ H q = some (.lst (ns.map V.int))
  | .dl kvs => (kvs.map fun x => x.2.1).Nodup ∧ ∀ x ∈ kvs, x.2.1 ≠ p ∧ F x.2.1 = none ∧ H x.2.1 = some (.lst (x.2.2.map V.int))
  | _ => True
def Flat : Cont → Prop
  | .pool _ _ _ _ => False
  | .dl _ => False
  | _ => True
theorem Flat.no {k : Cont} (f : Flat k) {a : Addr} : ¬ Foot k a := by
  cases k with
  | lst ds => exact id
  | obj C dx fs => exact id
  | pool a b q ns => exact f.elim
  | dl kvs => exact f.elim
  | dk kvs => exact id
  | dt kvs => exact id
  | st S n => exact id
theorem Flat.sub {k : Cont} (f : Flat k) {F H : Hp} {p : Addr} : SubOk F H p k := by
  cases k with
  | lst ds => exact trivial
  | obj C dx fs => exact trivial
  | pool a b q ns => exact f.elim
  | dl kvs => exact f.elim
  | dk kvs => exact trivial
  | dt kvs => exact trivial
  | st S n => exact trivial
def CellOk (K : PySem.W.Frag) (F H : Hp) : Cell → Prop
  | .own p k => F p = none ∧ ∃ vs, H p = some vs ∧ CRep K F vs k ∧ SubOk F H p k
  | _ => True
theorem CellOk.has {K : PySem.W.Frag} {F H : Hp} {c : Cell} {a : Addr} (h : CellOk K F H c) (f : Has c a) : F a = none ∧ ∃ u, H a = some u ∧ NT u := by
  cases c with
  | any => exact f.elim
  | dat d => exact f.elim
  | own p k =>
    obtain ⟨h1, vs, h2, h3, h4⟩ := h
    rcases f with rfl | f
    · exact ⟨h1, vs, h2, h3.nt⟩
    · cases k with
      | lst ds => exact f.elim
      | obj C dx fs => exact f.elim
      | pool x y q ns =>
        have f : a = q := f
        subst f
        exact ⟨h4.2.1, _, h4.2.2, nt_lst⟩
      | dl kvs =>
        obtain ⟨x, hx, rfl⟩ := f
        obtain ⟨_, h5, h6⟩ := h4.2 x hx
        exact ⟨h5, _, h6, nt_lst⟩
      | dk kvs => exact f.elim
      | dt kvs => exact f.elim
      | st S n => exact f.elim
theorem CellOk.move {K : PySem.W.Frag} {F H F' H' : Hp} {c : Cell} (h : CellOk K F H c) (s : Same F F') (m : ∀ a, Has c a → F' a = none ∧ ∀ u, H a = some u → NT u → H' a = some u) : CellOk K F' H' c := by
  cases c with
  | any => exact trivial
  | dat d => exact trivial
  | own p k =>
    obtain ⟨h1, vs, h2, h3, h4⟩ := h
    refine ⟨(m p (.inl rfl)).1, vs, (m p (.inl rfl)).2 _ h2 h3.nt, h3.mono s, ?_⟩
    cases k with
    | lst ds => exact trivial
    | obj C dx fs => exact trivial
    | pool x y q ns => exact ⟨h4.1, (m q (.inr rfl)).1, (m q (.inr rfl)).2 _ h4.2.2 nt_lst⟩
    | dl kvs => exact ⟨h4.1, fun x hx => ⟨(h4.2 x hx).1, (m x.2.1 (.inr ⟨x, hx, rfl⟩)).1, (m x.2.1 (.inr ⟨x, hx, rfl⟩)).2 _ (h4.2 x hx).2.2 nt_lst⟩⟩
    | dk kvs => exact trivial
    | dt kvs => exact trivial
    | st S n => exact trivial
theorem CellOk.flat {K : PySem.W.Frag} {F H : Hp} {p : Addr} {k : Cont} {vs : HO} (fl : Flat k) (h1 : F p = none) (h2 : H p = some vs) (h3 : CRep K F vs k) : CellOk K F H (.own p k) := ⟨h1, vs, h2, h3, fl.sub⟩

/-- a mutable list that is the frame's own -/
def OwnOk (K : PySem.W.Frag) (F H : Hp) (τ : List Cell) : Prop := ∀ (i : Nat) (c : Cell), τ[i]? = some c → CellOk K F H c
def InjOk (τ : List Cell) : Prop := ∀ (i j : Nat) (c d : Cell) (a : Addr), τ[i]? = some c → τ[j]? = some d → Has c a → Has d a → i = j
def SlotOk (K : PySem.W.Frag) (F : Hp) (s : Option V) : Cell → Prop
  | .any => True
  | .dat d => ∃ v, s = some v ∧ Rep K F v d
  | .own p _ => s = some (.ref p)
/-- the tables of code objects that are in use -/
class TabT where
  T : List (Addr × Str)
variable [TB : TabT]
theorem tabs_upd {T : List (Addr × Str)} {H : Hp} {p : Addr} {o : HO} (h : ∀ u, H p = some u → (∀ ps, u ≠ .tbl ps) ∧ ∀ c q, u ≠ LamX.CodeO c q) (t : LamX.Tabs T H) : LamX.Tabs T (upd H p o) := by
  intro x hx
  obtain ⟨ps, h1, h2, h3⟩ := t x hx
  refine ⟨ps, ?_, h2, fun pos cv e => ?_⟩
  · rw [upd_ne (fun z => by rw [z] at h1; exact (h _ h1).1 ps rfl)]
    exact h1
  · obtain ⟨c, e1, e2⟩ := h3 pos cv e
    refine ⟨c, e1, ?_⟩
    rw [upd_ne (fun z => by rw [z] at e2; exact (h _ e2).2 _ _ rfl)]
    exact e2
theorem tabs_new {T : List (Addr × Str)} {H : Hp} {p : Addr} {o : HO} (h : H p = none) (t : LamX.Tabs T H) : LamX.Tabs T (upd H p o) := tabs_upd (fun u e => by rw [h] at e; cases e) t
theorem tabs_crep {T : List (Addr × Str)} {K : PySem.W.Frag} {F H : Hp} {p : Addr} {o u : HO} {c : Cont} (h : H p = some u) (r : CRep K F u c) (t : LamX.Tabs T H) : LamX.Tabs T (upd H p o) :=
  tabs_upd (fun v e => by
    rw [h] at e
    cases e
    refine ⟨r.nt, fun c q z => ?_⟩
    unfold LamX.CodeO at z
    cases r <;> cases z) t
theorem tabs_lst {T : List (Addr × Str)} {H : Hp} {p : Addr} {o : HO} {xs : List V} (h : H p = some (.lst xs)) : LamX.Tabs T H → LamX.Tabs T (upd H p o) :=
  tabs_upd fun v e => by
    rw [h] at e
    cases e
    exact ⟨fun ps z => (by cases z), fun c q z => (by unfold LamX.CodeO at z; cases z)⟩
theorem tabs_dK {T : List (Addr × Str)} {H : Hp} {p : Addr} {o : HO} {xs : List (Key × V)} (h : H p = some (.dK xs)) : LamX.Tabs T H → LamX.Tabs T (upd H p o) :=
  tabs_upd fun v e => by
    rw [h] at e
    cases e
    exact ⟨fun ps z => (by cases z), fun c q z => (by unfold LamX.CodeO at z; cases z)⟩
/-- the tables stand, and no data is one -/
def Good (F H : Hp) : Prop := LamX.Tabs TB.T H ∧ ∀ a o, F a = some o → NT o
theorem nt_upd {F : Hp} {p : Addr} {o : HO} (nt : NT o) (h : ∀ a u, F a = some u → NT u) : ∀ a u, upd F p o a = some u → NT u := fun a u e => by
  by_cases q : a = p
  · subst q; rw [upd_same] at e; cases e; exact nt
  · rw [upd_ne q] at e; exact h a u e
structure SOk (K : PySem.W.Frag) (F H : Hp) (σ : L2.St) (τ : List Cell) : Prop where
  tabs : Good F H
  sub : Same F H
  len : σ.length = τ.length
  slot : ∀ (i : Nat) (s : Option V) (c : Cell), σ[i]? = some s → τ[i]? = some c → SlotOk K F s c
  own : OwnOk K F H τ
  inj : InjOk τ
def IsOwn (τ : List Cell) (p : Addr) : Prop := ∃ (i : Nat) (c : Cell), τ[i]? = some c ∧ Has c p
theorem isOwn_at {τ : List Cell} {i : Nat} {p : Addr} {k : Cont} (h : τ[i]? = some (.own p k)) : IsOwn τ p := ⟨i, _, h, .inl rfl⟩
theorem OwnOk.has {K : PySem.W.Frag} {F H : Hp} {τ : List Cell} {a : Addr} (o : OwnOk K F H τ) (h : IsOwn τ a) : F a = none ∧ ∃ u, H a = some u ∧ NT u := by
  obtain ⟨i, c, e, f⟩ := h
  exact (o i c e).has f
theorem set_get {τ : List Cell} {i j : Nat} {c d : Cell} (h : (τ.set i c)[j]? = some d) : (j = i ∧ d = c ∧ i < τ.length) ∨ (j ≠ i ∧ τ[j]? = some d) := by
  by_cases e : i = j
  · subst e
    by_cases hl : i < τ.length
    · rw [List.getElem?_set_self hl] at h
      cases h
      exact .inl ⟨rfl, rfl, hl⟩
    · rw [List.getElem?_eq_none (by rw [List.length_set]; exact Nat.le_of_not_lt hl)] at h
      cases h
  · rw [List.getElem?_set_ne e] at h
    exact .inr ⟨fun z => e z.symm, h⟩
theorem isOwn_set {τ : List Cell} {i : Nat} {c : Cell} (hc : ∀ a, ¬ Has c a) {p : Addr} (h : IsOwn (τ.set i c) p) : IsOwn τ p := by
  obtain ⟨j, d, e, f⟩ := h
  rcases set_get e with ⟨_, rfl, _⟩ | ⟨_, e⟩
  · exact absurd f (hc p)
  · exact ⟨j, d, e, f⟩
theorem InjOk.set {τ : List Cell} {i : Nat} {c : Cell} (h : InjOk τ) (hc : ∀ a, Has c a → ∀ j d, j ≠ i → τ[j]? = some d → ¬ Has d a) : InjOk (τ.set i c) := by
  intro j k d e a h1 h2 f1 f2
  rcases set_get h1 with ⟨a1, e1, _⟩ | ⟨n1, g1⟩
  · rcases set_get h2 with ⟨b1, e2, _⟩ | ⟨n2, g2⟩
    · rw [a1, b1]
    · exact absurd f2 (hc a (e1 ▸ f1) k e n2 g2)
  · rcases set_get h2 with ⟨b1, e2, _⟩ | ⟨n2, g2⟩
    · exact absurd f1 (hc a (e2 ▸ f2) j d n1 g1)
    · exact h j k d e a g1 g2 f1 f2
/-- nothing is there, or a table -/
def Fr (H : Hp) (a : Addr) : Prop := ∀ o, H a = some o → ¬ NT o
theorem fr_none {H : Hp} {a : Addr} (h : H a = none) : Fr H a := fun o e => by rw [h] at e; cases e
theorem fr_ne {H : Hp} {a p : Addr} {o : HO} (e : H a = some o) (nt : NT o) (h : Fr H p) : a ≠ p := fun z => h o (by rw [← z]; exact e) nt
/-- from (F, H) to (F', H'), where what is own may change -/
structure Ext (τ : List Cell) (F H F' H' : Hp) : Prop where
  f : Same F F'
  new : ∀ a o, F' a = some o → F a = some o ∨ Fr H a ∨ IsOwn τ a
  keep : ∀ a o, H a = some o → ¬ IsOwn τ a → NT o → H' a = some o
  there : ∀ a, Fr H' a → Fr H a
  tabs : Good F H → Good F' H'
/-- what is own behind was own ahead, or is new -/
def Grow (τ : List Cell) (H : Hp) (τ' : List Cell) : Prop := ∀ p, IsOwn τ' p → IsOwn τ p ∨ Fr H p
theorem Ext.refl (τ : List Cell) (F H : Hp) : Ext τ F H F H := ⟨Same.refl F, fun _ _ h => .inl h, fun _ _ h _ _ => h, fun _ h => h, id⟩
theorem Grow.refl (τ : List Cell) (H : Hp) : Grow τ H τ := fun _ h => .inl h
theorem Ext.trans {τ τ1 : List Cell} {F H F1 H1 F2 H2 : Hp} (a : Ext τ F H F1 H1) (g : Grow τ H τ1) (b : Ext τ1 F1 H1 F2 H2) : Ext τ F H F2 H2 := by
  refine ⟨a.f.trans b.f, fun x o e => ?_, fun x o e n nt => ?_, fun x h => a.there x (b.there x h), fun t => b.tabs (a.tabs t)⟩
  · rcases b.new x o e with h | h | h
    · exact a.new x o h
    · exact .inr (.inl (a.there x h))
    · rcases g x h with h | h
      · exact .inr (.inr h)
      · exact .inr (.inl h)
  · refine b.keep x o (a.keep x o e n nt) (fun h => ?_) nt
    rcases g x h with h | h
    · exact n h
    · exact h o e nt
theorem Grow.trans {τ τ1 τ2 : List Cell} {F H F1 H1 : Hp} (a : Ext τ F H F1 H1) (g : Grow τ H τ1) (g' : Grow τ1 H1 τ2) : Grow τ H τ2 := fun p h => by
  rcases g' p h with h | h
  · exact g p h
  · exact .inr (a.there p h)
/-- a new frozen object -/
theorem Ext.laid {τ : List Cell} {F H : Hp} {p : Addr} {o : HO} (s : Same F H) (h : H p = none) (nt : NT o) : Ext τ F H (upd F p o) (upd H p o) := by
  refine ⟨fun a u e => ?_, fun a u e => ?_, fun a u e _ _ => ?_, fun a e => ?_, fun g => ⟨tabs_new h g.1, nt_upd nt g.2⟩⟩
  · rw [upd_ne (ne_of_none (s _ _ e) h)]; exact e
  · by_cases q : a = p
    · subst q; exact .inr (.inl (fr_none h))
    · rw [upd_ne q] at e; exact .inl e
  · rw [upd_ne (ne_of_none e h)]; exact e
  · by_cases q : a = p
    · subst q; exact fr_none h
    · exact fun o' e' => e o' (by rw [upd_ne q]; exact e')
/-- a new object that is not tracked as data -/
theorem Ext.laid0 {τ : List Cell} {F H : Hp} {p : Addr} {o : HO} (h : H p = none) : Ext τ F H F (upd H p o) := by
  refine ⟨Same.refl F, fun a u e => .inl e, fun a u e _ _ => ?_, fun a e => ?_, fun g => ⟨tabs_new h g.1, g.2⟩⟩
  · rw [upd_ne (ne_of_none e h)]; exact e
  · by_cases q : a = p
    · subst q; exact fr_none h
    · exact fun o' e' => e o' (by rw [upd_ne q]; exact e')
theorem SlotOk.mono {K : PySem.W.Frag} {F F' : Hp} (s : Same F F') {v : Option V} {c : Cell} (h : SlotOk K F v c) : SlotOk K F' v c := by
  cases c with
  | any => exact trivial
  | dat d => obtain ⟨x, e, r⟩ := h; exact ⟨x, e, r.mono s⟩
  | own p ds => exact h
/-- a step that changes nothing of what is own -/
theorem SOk.ext {K : PySem.W.Frag} {F H F' H' : Hp} {σ : L2.St} {τ : List Cell} (S : SOk K F H σ τ) (e : Ext [] F H F' H') (sub : Same F' H') : SOk K F' H' σ τ := by
  have no : ∀ a, ¬ IsOwn [] a := fun a ⟨i, c, h, _⟩ => by simp at h
  refine ⟨e.tabs S.tabs, sub, S.len, fun i s c h1 h2 => (S.slot i s c h1 h2).mono e.f, fun i c h => (S.own i c h).move e.f fun a f => ?_, S.inj⟩
  obtain ⟨h1, u, h2, h3⟩ := (S.own i c h).has f
  refine ⟨?_, fun o ho nt => e.keep a o ho (no a) nt⟩
  cases q : F' a with
  | none => rfl
  | some o =>
    rcases e.new a o q with z | z | z
    · rw [h1] at z; cases z
    · exact (z _ h2 h3).elim
    · exact absurd z (no a)
theorem Ext.wk {τ : List Cell} {F H F' H' : Hp} (e : Ext [] F H F' H') : Ext τ F H F' H' := by
  have no : ∀ a, ¬ IsOwn [] a := fun a ⟨i, c, h, _⟩ => by simp at h
  refine ⟨e.f, fun a o h => ?_, fun a o h _ nt => e.keep a o h (no a) nt, e.there, e.tabs⟩
  rcases e.new a o h with z | z | z
  · exact .inl z
  · exact .inr (.inl z)
  · exact absurd z (no a)

/-! ## judgements -/
structure Xn where
  cls : Addr
  fs : List (Str × D)
structure XRep (K : PySem.W.Frag) (F H : Hp) (cls : Value) (dx : Option Addr) (x : Xn) : Prop where
  c : cls = .ref x.cls
  f : (x.fs = [] ∧ dx = none) ∨ (x.fs ≠ [] ∧ ∃ a vs, dx = some a ∧ H a = some (.xd vs) ∧ FRep K F vs x.fs)

abbrev EW := List Cell → (D → List Cell → Prop) → (Xn → List Cell → Prop) → Prop
abbrev TW := List Cell → (Bool → List Cell → Prop) → (Xn → List Cell → Prop) → Prop
abbrev AW := List Cell → (List D → List Cell → Prop) → (Xn → List Cell → Prop) → Prop
structure EndsD where
  nx : List Cell → Prop
  rt : D → List Cell → Prop
  rf : Cont → List Cell → Prop := fun _ _ => False
  bk : List Cell → Prop := fun _ => False
  ct : List Cell → Prop := fun _ => False
  ex : Xn → List Cell → Prop := fun _ _ => False
  rg : Cont → List Cell → Prop := fun _ _ => False
abbrev SW := EndsD → List Cell → Prop

/-- where an expression has led -/
structure To (K : PySem.W.Frag) (F H : Hp) (σ : L2.St) (τ : List Cell) (F' H' : Hp) (τ' : List Cell) : Prop where
  ext : Ext τ F H F' H'
  grow : Grow τ H τ'
  ok : SOk K F' H' σ τ'
theorem To.refl {K : PySem.W.Frag} {F H : Hp} {σ : L2.St} {τ : List Cell} (S : SOk K F H σ τ) : To K F H σ τ F H τ := ⟨.refl _ _ _, .refl _ _, S⟩
theorem To.trans {K : PySem.W.Frag} {F H F1 H1 F2 H2 : Hp} {σ σ' : L2.St} {τ τ1 τ2 : List Cell} (a : To K F H σ τ F1 H1 τ1) (b : To K F1 H1 σ' τ1 F2 H2 τ2) : To K F H σ' τ F2 H2 τ2 :=
  ⟨a.ext.trans a.grow b.ext, .trans a.ext a.grow b.grow, b.ok⟩
theorem To.small {K : PySem.W.Frag} {F H F' H' : Hp} {σ : L2.St} {τ : List Cell} (S : SOk K F H σ τ) (e : Ext [] F H F' H') (sub : Same F' H') : To K F H σ τ F' H' τ := ⟨e.wk, .refl _ _, S.ext e sub⟩

def XTo (K : PySem.W.Frag) (W : WX) (F H : Hp) (σ : L2.St) (τ : List Cell) (e : Xn → List Cell → Prop) : Prop :=
  ∀ x cls dx τ' F' H', To K F H σ τ F' H' τ' → XRep K F' H' cls dx x → e x τ' → W cls dx σ H'
theorem XTo.of {K : PySem.W.Frag} {W : WX} {F H F1 H1 : Hp} {σ : L2.St} {τ τ1 : List Cell} {e : Xn → List Cell → Prop} (x : XTo K W F H σ τ e) (t : To K F H σ τ F1 H1 τ1) : XTo K W F1 H1 σ τ1 e :=
  fun y cls dx τ' F' H' u r q => x y cls dx τ' F' H' (t.trans u) r q
structure DE (K : PySem.W.Frag) (W : WX) (t : TE) (w : EW) : Prop where
  run : ∀ σ H τ F Q q e, SOk K F H σ τ → w τ q e → (∀ v d τ' F' H', To K F H σ τ F' H' τ' → Rep K F' v d → q d τ' → Q v H') → XTo K W F H σ τ e → t σ H Q
structure DT (K : PySem.W.Frag) (W : WX) (t : TT) (w : TW) : Prop where
  run : ∀ σ H τ F Q q e, SOk K F H σ τ → w τ q e → (∀ b τ' F' H', To K F H σ τ F' H' τ' → q b τ' → Q b H') → XTo K W F H σ τ e → t σ H Q
structure DA (K : PySem.W.Frag) (W : WX) (t : TA) (w : AW) : Prop where
  run : ∀ σ H τ F Q q e, SOk K F H σ τ → w τ q e → (∀ vs ds τ' F' H', To K F H σ τ F' H' τ' → Reps K F' vs ds → q ds τ' → Q vs H') → XTo K W F H σ τ e → t σ H Q

section
variable {K : PySem.W.Frag} {W : WX}

def wVar (i : Nat) : EW := fun τ q _ => ∃ d, τ[i]? = some (.dat d) ∧ q d τ
theorem de_var (i : Nat) : DE K W (tVar i) (wVar i) := by
  refine ⟨fun σ H τ F Q q e S ⟨d, h, hq⟩ k _ => ?_⟩
  have hi : i < σ.length := by rw [S.len]; exact (List.getElem?_eq_some_iff.mp h).1
  obtain ⟨v, e1, r⟩ := S.slot i σ[i] _ (List.getElem?_eq_getElem hi) h
  exact ⟨v, by rw [List.getElem?_eq_getElem hi, e1], k v d τ F H (.refl S) r hq⟩
def wC (d : D) : EW := fun τ q _ => q d τ
theorem de_c {v : V} {d : D} (h : ∀ F, Rep K F v d) : DE K W (tC v) (wC d) := ⟨fun σ H τ F Q q e S hq k _ => k v d τ F H (.refl S) (h F) hq⟩
theorem de_int {i : Int} : DE K W (tC (.int i)) (wC (.int i)) := de_c fun _ => .int i
theorem de_bl {i : Bool} : DE K W (tC (.bl i)) (wC (.bl i)) := de_c fun _ => .bl i
theorem de_non : DE K W (tC .non) (wC .non) := de_c fun _ => .non
theorem de_str {x : Str} : DE K W (tC (.str x)) (wC (.str x)) := de_c fun _ => .str x

/-- an operation that changes nothing that is there -/
def Op2 (K : PySem.W.Frag) (r : R2) (g : D → D → (D → Prop) → Prop) : Prop :=
  ∀ F H x y d1 d2 (q : D → Prop) Q, Same F H → Rep K F x d1 → Rep K F y d2 → g d1 d2 q → (∀ v d F' H', Ext [] F H F' H' → Same F' H' → Rep K F' v d → q d → Q v H') → r x y H Q
def wOp (g : D → D → (D → Prop) → Prop) (wa wb : EW) : EW := fun τ q e => wa τ (fun d1 τ1 => wb τ1 (fun d2 τ2 => g d1 d2 fun d => q d τ2) e) e
theorem de_op {r : R2} {g : D → D → (D → Prop) → Prop} {ta tb : TE} {wa wb : EW} (o : Op2 K r g) (ha : DE K W ta wa) (hb : DE K W tb wb) : DE K W (tOp r ta tb) (wOp g wa wb) := by
  refine ⟨fun σ H τ F Q q e S h k x => ?_⟩
  refine ha.run σ H τ F _ _ e S h (fun v1 d1 τ1 F1 H1 t1 r1 h1 => ?_) x
  refine hb.run σ H1 τ1 F1 _ _ e t1.ok h1 (fun v2 d2 τ2 F2 H2 t2 r2 h2 => ?_) (x.of t1)
  refine o F2 H2 v1 v2 d1 d2 _ Q t2.ok.sub (r1.mono t2.ext.f) r2 h2 fun v d F3 H3 e3 s3 r3 h3 => ?_
  exact k v d τ2 F3 H3 ((t1.trans t2).trans (.small t2.ok e3 s3)) r3 h3
def g2I (f : Int → Int → D) : D → D → (D → Prop) → Prop := fun x y q => ∃ i j, x = .int i ∧ y = .int j ∧ q (f i j)
def g2IC (C : Int → Int → Prop) (f : Int → Int → D) : D → D → (D → Prop) → Prop := fun x y q => ∃ i j, x = .int i ∧ y = .int j ∧ C i j ∧ q (f i j)
theorem Rep.int_of {F : Hp} {v : V} {i : Int} (h : Rep K F v (.int i)) : v = .int i := by cases h; rfl
theorem Rep.bl_of {F : Hp} {v : V} {i : Bool} (h : Rep K F v (.bl i)) : v = .bl i := by cases h; rfl
theorem op2I {f : Int → Int → V} {g : Int → Int → D} (h : ∀ F i j, Rep K F (f i j) (g i j)) : Op2 K (rI0 f) (g2I g) := by
  rintro F H x y d1 d2 q Q s r1 r2 ⟨i, j, rfl, rfl, hq⟩ k
  exact ⟨i, j, r1.int_of, r2.int_of, k _ _ F H (.refl _ _ _) s (h F i j) hq⟩
theorem op2IC {C : Int → Int → Prop} {f : Int → Int → V} {g : Int → Int → D} (h : ∀ F i j, Rep K F (f i j) (g i j)) : Op2 K (rI C f) (g2IC C g) := by
  rintro F H x y d1 d2 q Q s r1 r2 ⟨i, j, rfl, rfl, hc, hq⟩ k
  exact ⟨i, j, r1.int_of, r2.int_of, hc, k _ _ F H (.refl _ _ _) s (h F i j) hq⟩
theorem o_add : Op2 K (rI0 fun i j => .int (i + j)) (g2I fun i j => .int (i + j)) := op2I fun _ _ _ => .int _
theorem o_sub : Op2 K (rI0 fun i j => .int (i - j)) (g2I fun i j => .int (i - j)) := op2I fun _ _ _ => .int _
theorem o_lt : Op2 K (rI0 fun i j => .bl (decide (i < j))) (g2I fun i j => .bl (decide (i < j))) := op2I fun _ _ _ => .bl _
theorem o_le : Op2 K (rI0 fun i j => .bl (decide (i ≤ j))) (g2I fun i j => .bl (decide (i ≤ j))) := op2I fun _ _ _ => .bl _
theorem o_gt : Op2 K (rI0 fun i j => .bl (decide (j < i))) (g2I fun i j => .bl (decide (j < i))) := op2I fun _ _ _ => .bl _
theorem o_ge : Op2 K (rI0 fun i j => .bl (decide (j ≤ i))) (g2I fun i j => .bl (decide (j ≤ i))) := op2I fun _ _ _ => .bl _
theorem o_mul : Op2 K (rI CMul fun i j => .int (i * j)) (g2IC CMul fun i j => .int (i * j)) := op2IC fun _ _ _ => .int _
theorem o_fdiv : Op2 K (rI CDiv fun i j => .int (i / j)) (g2IC CDiv fun i j => .int (i / j)) := op2IC fun _ _ _ => .int _
theorem o_mod : Op2 K (rI (fun _ j => 0 < j) fun i j => .int (i % j)) (g2IC (fun _ j => 0 < j) fun i j => .int (i % j)) := op2IC fun _ _ _ => .int _
theorem o_pow : Op2 K (rI CPow fun i j => .int (i ^ j.toNat)) (g2IC CPow fun i j => .int (i ^ j.toNat)) := op2IC fun _ _ _ => .int _

end
end L3

/-! ## expressions, on -/
namespace L3
open PySem PySem.Spec PyProof.Rows L2
variable [TB : TabT]
section
variable {K : PySem.W.Frag} {W : WX}

/-- an expression and its reading by data -/
def CE (X : Cx) (W : WX) (e : Expr) (w : EW) : Prop := ∃ t, PE X e t ∧ DE X.K W t w
def CT (X : Cx) (W : WX) (e : Expr) (w : TW) : Prop := ∃ t, PT X e t ∧ DT X.K W t w
def CA (X : Cx) (W : WX) (es : List Expr) (w : AW) : Prop := ∃ t, PA X es t ∧ DA X.K W t w

def wB (we : EW) : TW := fun τ q e => we τ (fun d τ' => ∃ b, d = .bl b ∧ q b τ') e
theorem dt_B {t : TE} {w : EW} (h : DE K W t w) : DT K W (tB t) (wB w) := by
  refine ⟨fun σ H τ F Q q e S hw k x => h.run σ H τ F _ _ e S hw (fun v d τ' F' H' t' r ⟨b, e', hq⟩ => ?_) x⟩
  subst e'
  exact ⟨b, r.bl_of, k b τ' F' H' t' hq⟩
def wNot (wt : TW) : TW := fun τ q e => wt τ (fun b τ' => q (!b) τ') e
theorem dt_not {t : TT} {w : TW} (h : DT K W t w) : DT K W (tNot t) (wNot w) :=
  ⟨fun σ H τ F Q q e S hw k x => h.run σ H τ F _ _ e S hw (fun b τ' F' H' t' hq => k _ τ' F' H' t' hq) x⟩
def wAnd (wa wb : TW) : TW := fun τ q e => wa τ (fun b τ' => (b = true → wb τ' q e) ∧ (b = false → q false τ')) e
theorem dt_and {t u : TT} {w v : TW} (h : DT K W t w) (g : DT K W u v) : DT K W (tAnd t u) (wAnd w v) := by
  refine ⟨fun σ H τ F Q q e S hw k x => h.run σ H τ F _ _ e S hw (fun b τ' F' H' t' ⟨h1, h2⟩ => ?_) x⟩
  cases b with
  | true =>
    refine iteT ?_
    exact g.run σ H' τ' F' _ _ e t'.ok (h1 rfl) (fun b τ2 F2 H2 t2 hq => k b τ2 F2 H2 (t'.trans t2) hq) (x.of t')
  | false => exact iteF (k false τ' F' H' t' (h2 rfl))
def wOr (wa wb : TW) : TW := fun τ q e => wa τ (fun b τ' => (b = false → wb τ' q e) ∧ (b = true → q true τ')) e
theorem dt_or {t u : TT} {w v : TW} (h : DT K W t w) (g : DT K W u v) : DT K W (tOr t u) (wOr w v) := by
  refine ⟨fun σ H τ F Q q e S hw k x => h.run σ H τ F _ _ e S hw (fun b τ' F' H' t' ⟨h1, h2⟩ => ?_) x⟩
  cases b with
  | false =>
    refine iteF ?_
    exact g.run σ H' τ' F' _ _ e t'.ok (h1 rfl) (fun b τ2 F2 H2 t2 hq => k b τ2 F2 H2 (t'.trans t2) hq) (x.of t')
  | true => exact iteT (k true τ' F' H' t' (h2 rfl))
def wAndV (wa wb : EW) : EW := fun τ q e => wa τ (fun d τ' => ∃ b, d = .bl b ∧ (b = true → wb τ' q e) ∧ (b = false → q (.bl false) τ')) e
theorem de_and {t u : TE} {w v : EW} (h : DE K W t w) (g : DE K W u v) : DE K W (tAndV t u) (wAndV w v) := by
  refine ⟨fun σ H τ F Q q e S hw k x => h.run σ H τ F _ _ e S hw (fun z d τ' F' H' t' r ⟨b, e', h1, h2⟩ => ?_) x⟩
  subst e'
  refine ⟨b, r.bl_of, ?_⟩
  cases b with
  | true =>
    refine iteT ?_
    exact g.run σ H' τ' F' _ _ e t'.ok (h1 rfl) (fun z b τ2 F2 H2 t2 r2 hq => k z b τ2 F2 H2 (t'.trans t2) r2 hq) (x.of t')
  | false => exact iteF (k _ _ τ' F' H' t' (.bl false) (h2 rfl))
def wOrV (wa wb : EW) : EW := fun τ q e => wa τ (fun d τ' => ∃ b, d = .bl b ∧ (b = false → wb τ' q e) ∧ (b = true → q (.bl true) τ')) e
theorem de_or {t u : TE} {w v : EW} (h : DE K W t w) (g : DE K W u v) : DE K W (tOrV t u) (wOrV w v) := by
  refine ⟨fun σ H τ F Q q e S hw k x => h.run σ H τ F _ _ e S hw (fun z d τ' F' H' t' r ⟨b, e', h1, h2⟩ => ?_) x⟩
  subst e'
  refine ⟨b, r.bl_of, ?_⟩
  cases b with
  | false =>
    refine iteF ?_
    exact g.run σ H' τ' F' _ _ e t'.ok (h1 rfl) (fun z b τ2 F2 H2 t2 r2 hq => k z b τ2 F2 H2 (t'.trans t2) r2 hq) (x.of t')
  | true => exact iteT (k _ _ τ' F' H' t' (.bl true) (h2 rfl))
def wNotV (wa : EW) : EW := fun τ q e => wa τ (fun d τ' => ∃ b, d = .bl b ∧ q (.bl (!b)) τ') e
theorem de_not {t : TE} {w : EW} (h : DE K W t w) : DE K W (tNotV t) (wNotV w) := by
  refine ⟨fun σ H τ F Q q e S hw k x => h.run σ H τ F _ _ e S hw (fun z d τ' F' H' t' r ⟨b, e', h1⟩ => ?_) x⟩
  subst e'
  exact ⟨b, r.bl_of, k _ _ τ' F' H' t' (.bl _) h1⟩
def wIf (wc : TW) (wa wb : EW) : EW := fun τ q e => wc τ (fun b τ' => (b = true → wa τ' q e) ∧ (b = false → wb τ' q e)) e
theorem de_if {c : TT} {t u : TE} {wc : TW} {w v : EW} (h : DT K W c wc) (g : DE K W t w) (l : DE K W u v) : DE K W (tIf c t u) (wIf wc w v) := by
  refine ⟨fun σ H τ F Q q e S hw k x => h.run σ H τ F _ _ e S hw (fun b τ' F' H' t' ⟨h1, h2⟩ => ?_) x⟩
  cases b with
  | true =>
    refine iteT ?_
    exact g.run σ H' τ' F' _ _ e t'.ok (h1 rfl) (fun z b τ2 F2 H2 t2 r2 hq => k z b τ2 F2 H2 (t'.trans t2) r2 hq) (x.of t')
  | false =>
    refine iteF ?_
    exact l.run σ H' τ' F' _ _ e t'.ok (h2 rfl) (fun z b τ2 F2 H2 t2 r2 hq => k z b τ2 F2 H2 (t'.trans t2) r2 hq) (x.of t')
def wChain (g g' : D → D → (D → Prop) → Prop) (wa wb wc : EW) : EW := fun τ q e => wa τ (fun d1 τ1 => wb τ1 (fun d2 τ2 => g d1 d2 fun d => ∃ b, d = .bl b ∧
  (b = true → wc τ2 (fun d3 τ3 => g' d2 d3 fun d => q d τ3) e) ∧ (b = false → q (.bl false) τ2)) e) e
theorem de_chain {r r' : R2} {g g' : D → D → (D → Prop) → Prop} {ta tb tc : TE} {wa wb wc : EW} (o : Op2 K r g) (o' : Op2 K r' g') (ha : DE K W ta wa) (hb : DE K W tb wb) (hc : DE K W tc wc) : DE K W (tChain r r' ta tb tc) (wChain g g' wa wb wc) := by
  refine ⟨fun σ H τ F Q q e S h k x => ?_⟩
  refine ha.run σ H τ F _ _ e S h (fun v1 d1 τ1 F1 H1 t1 r1 h1 => ?_) x
  refine hb.run σ H1 τ1 F1 _ _ e t1.ok h1 (fun v2 d2 τ2 F2 H2 t2 r2 h2 => ?_) (x.of t1)
  refine o F2 H2 v1 v2 d1 d2 _ _ t2.ok.sub (r1.mono t2.ext.f) r2 h2 fun v d F3 H3 e3 s3 r3 ⟨b, eb, h3, h4⟩ => ?_
  subst eb
  have t3 : To K F2 H2 σ τ2 F3 H3 τ2 := .small t2.ok e3 s3
  have t03 := (t1.trans t2).trans t3
  refine ⟨b, r3.bl_of, ?_⟩
  cases b with
  | false => exact iteF (k _ _ τ2 F3 H3 t03 (.bl false) (h4 rfl))
  | true =>
    refine iteT ?_
    refine hc.run σ H3 τ2 F3 _ _ e t3.ok (h3 rfl) (fun v4 d4 τ4 F4 H4 t4 r4 h5 => ?_) (x.of t03)
    refine o' F4 H4 v2 v4 d2 d4 _ Q t4.ok.sub (r2.mono ((e3.f).trans t4.ext.f)) r4 h5 fun v d F5 H5 e5 s5 r5 h6 => ?_
    exact k v d τ4 F5 H5 ((t03.trans t4).trans (.small t4.ok e5 s5)) r5 h6

/-! ### arguments, calls of built-ins -/
def wNil : AW := fun τ q _ => q [] τ
def wCons (we : EW) (wa : AW) : AW := fun τ q e => we τ (fun d τ1 => wa τ1 (fun ds τ2 => q (d :: ds) τ2) e) e
theorem da_nil : DA K W tNil wNil := ⟨fun σ H τ F Q q e S hq k _ => k [] [] τ F H (.refl S) .nil hq⟩
theorem da_cons {t : TE} {u : TA} {w : EW} {v : AW} (h : DE K W t w) (g : DA K W u v) : DA K W (tCons t u) (wCons w v) := by
  refine ⟨fun σ H τ F Q q e S hw k x => h.run σ H τ F _ _ e S hw (fun z d τ' F' H' t' r h1 => ?_) x⟩
  refine g.run σ H' τ' F' _ _ e t'.ok h1 (fun zs ds τ2 F2 H2 t2 r2 hq => ?_) (x.of t')
  exact k (z :: zs) (d :: ds) τ2 F2 H2 (t'.trans t2) (.cons (r.mono t2.ext.f) r2) hq
def OpN (K : PySem.W.Frag) (r : List V → Hp → VK → Prop) (g : List D → (D → Prop) → Prop) : Prop :=
  ∀ F H xs ds (q : D → Prop) Q, Same F H → Reps K F xs ds → g ds q → (∀ v d F' H', Ext [] F H F' H' → Same F' H' → Rep K F' v d → q d → Q v H') → r xs H Q
def wCB (g : List D → (D → Prop) → Prop) (wa : AW) : EW := fun τ q e => wa τ (fun ds τ' => g ds fun d => q d τ') e
theorem de_cb {r : List V → Hp → VK → Prop} {g : List D → (D → Prop) → Prop} {t : TA} {w : AW} (o : OpN K r g) (h : DA K W t w) : DE K W (tCB r t) (wCB g w) := by
  refine ⟨fun σ H τ F Q q e S hw k x => h.run σ H τ F _ _ e S hw (fun zs ds τ' F' H' t' r' h1 => ?_) x⟩
  refine o F' H' zs ds _ Q t'.ok.sub r' h1 fun v d F2 H2 e2 s2 r2 hq => ?_
  exact k v d τ' F2 H2 (t'.trans (.small t'.ok e2 s2)) r2 hq
def seqD : D → Option (List D)
  | .tup ds => some ds | .lst ds => some ds | .fl ds => some ds | _ => none
theorem Rep.seq {F : Hp} {v : V} {d : D} {ds : List D} (h : Rep K F v d) (e : seqD d = some ds) : ∃ a xs, v = .ref a ∧ (SqL K F a xs ∨ SqT K F a xs) ∧ Reps K F xs ds := by
  cases h with
  | tup h r => cases e; exact ⟨_, _, rfl, .inr h, r⟩
  | lst h r => cases e; exact ⟨_, _, rfl, .inl (.inl (.inl h)), r⟩
  | fl h r => cases e; exact ⟨_, _, rfl, .inl h, r⟩
  | _ => cases e
theorem Reps.one {F : Hp} {xs : List V} {d : D} (h : Reps K F xs [d]) : ∃ v, xs = [v] ∧ Rep K F v d := by
  cases h with
  | cons h t => cases t; exact ⟨_, rfl, h⟩
theorem Reps.two {F : Hp} {xs : List V} {d d' : D} (h : Reps K F xs [d, d']) : ∃ v v', xs = [v, v'] ∧ Rep K F v d ∧ Rep K F v' d' := by
  cases h with
  | cons h t => obtain ⟨u, rfl, r⟩ := Reps.one t; exact ⟨_, _, rfl, h, r⟩
def gLen : List D → (D → Prop) → Prop := fun ds q => ∃ d es, ds = [d] ∧ seqD d = some es ∧ q (.int es.length)
def rLenS (K : PySem.W.Frag) : List V → Hp → VK → Prop := fun xs H Q => ∃ p ys, xs = [.ref p] ∧ (SqL K H p ys ∨ SqT K H p ys) ∧ Q (.int ys.length) H
theorem o_len : OpN K (rLenS K) gLen := by
  rintro F H xs ds q Q s r ⟨d, es, rfl, e, hq⟩ k
  obtain ⟨v, rfl, r1⟩ := r.one
  obtain ⟨a, ys, rfl, h, r2⟩ := r1.seq e
  refine ⟨a, ys, rfl, h.imp (fun h => s.seq h) (fun h => SqT_mono s h), ?_⟩
  exact k _ (.int es.length) F H (.refl _ _ _) s (by rw [r2.length]; exact .int _) hq
structure InsTy (K : PySem.W.Frag) (C : Addr) : Prop where
  cl : Cls K C
  ha : PySem.W.findIn K (.ref C) "__class__" = some (some (.builtin "object.__class__"))
  hn : PySem.W.specialIn K (.builtin "object.__class__") "__get__" = some (some (.builtin "getset_descriptor.__get__"))
  ht : PySem.W.takesIn K (.builtin "object.__class__") = some true
  hm : PySem.W.mroIn K C (.type "object") = some true
/-- its type is known -/
def TyOk (K : PySem.W.Frag) (d : D) : Prop := noTy d ∨ ∃ C gs, d = .ins C gs ∧ InsTy K C
theorem Rep.tyO {F : Hp} {v : V} {d : D} (h : Rep K F v d) (n : TyOk K d) : TyX K F v (tyD d) := by
  rcases n with n | ⟨C, gs, rfl, c⟩
  · exact h.tyX n
  · cases h with
    | ins ea _ => exact .base (.ins ea c.cl c.ha c.hn c.ht c.hm)
def gIsi (K : PySem.W.Frag) : List D → (D → Prop) → Prop := fun ds q => ∃ d n b, ds = [d, .ty n] ∧ TyOk K d ∧ PySem.W.kitOne K (tyD d) (.type n) = some b ∧ q (.bl b)
theorem o_isi : OpN K (rIsi K) (gIsi K) := by
  rintro F H xs ds q Q s r ⟨d, n, b, rfl, nt, e, hq⟩ k
  obtain ⟨v, v', rfl, r1, r2⟩ := r.two
  cases r2
  exact ⟨v, .ty n, tyD d, .type n, b, rfl, .ty n, TyX_mono s (r1.tyO nt), e, k _ (.bl b) F H (.refl _ _ _) s (.bl b) hq⟩
def rAbs : List V → Hp → VK → Prop := fun xs H Q => ∃ i, xs = [.int i] ∧ Q (.int (if i < 0 then -i else i)) H
def gAbs : List D → (D → Prop) → Prop := fun ds q => ∃ i, ds = [.int i] ∧ q (.int (if i < 0 then -i else i))
theorem o_abs : OpN K rAbs gAbs := by
  rintro F H xs ds q Q s r ⟨i, rfl, hq⟩ k
  obtain ⟨v, rfl, r1⟩ := r.one
  exact ⟨i, by rw [r1.int_of], k _ _ F H (.refl _ _ _) s (.int _) hq⟩
def gGcd : List D → (D → Prop) → Prop := fun ds q => ∃ i j : Int, ds = [.int i, .int j] ∧ q (.int ((Nat.gcd i.natAbs j.natAbs : Nat) : Int))
theorem o_gcd : OpN K rGcd gGcd := by
  rintro F H xs ds q Q s r ⟨i, j, rfl, hq⟩ k
  obtain ⟨v, v', rfl, r1, r2⟩ := r.two
  exact ⟨i, j, by rw [r1.int_of, r2.int_of], k _ _ F H (.refl _ _ _) s (.int _) hq⟩
def gAll : List D → (D → Prop) → Prop := fun ds q => ∃ (es : List D) (bs : List Bool), (ds = [.lst es] ∨ ds = [.fl es]) ∧ es = bs.map D.bl ∧ q (.bl (bs.all id))
theorem o_all : OpN K (rAll K) gAll := by
  rintro F H xs ds q Q s r ⟨es, bs, e, rfl, hq⟩ k
  rcases e with rfl | rfl
  · obtain ⟨v, rfl, r1⟩ := r.one
    cases r1 with
    | lst h r2 =>
      have := Reps.bls r2
      subst this
      exact ⟨_, bs, rfl, .inl (.inl (s _ _ h)), k _ _ F H (.refl _ _ _) s (.bl _) hq⟩
  · obtain ⟨v, rfl, r1⟩ := r.one
    cases r1 with
    | fl h r2 =>
      have := Reps.bls r2
      subst this
      exact ⟨_, bs, rfl, s.seq h, k _ _ F H (.refl _ _ _) s (.bl _) hq⟩
def rInt1 : List V → Hp → VK → Prop := fun xs H Q => (∃ i, xs = [.int i] ∧ Q (.int i) H) ∨ ∃ k, xs = [.bl k] ∧ Q (.int (if k then 1 else 0)) H
def numD3 : D → Option Int | .int i => some i | .bl k => some (if k then 1 else 0) | _ => none
def gInt1 : List D → (D → Prop) → Prop := fun ds q => ∃ d i, ds = [d] ∧ numD3 d = some i ∧ q (.int i)
theorem o_int1 : OpN K rInt1 gInt1 := by
  rintro F H xs ds q Q s r ⟨d, i, rfl, e, hq⟩ k
  obtain ⟨v, rfl, r1⟩ := r.one
  cases d <;> simp [numD3] at e
  · subst e
    exact .inr ⟨_, by rw [r1.bl_of], k _ _ F H (.refl _ _ _) s (.int _) hq⟩
  · subst e
    exact .inl ⟨_, by rw [r1.int_of], k _ _ F H (.refl _ _ _) s (.int _) hq⟩
def rTupleOf (K : PySem.W.Frag) : List V → Hp → VK → Prop := fun xs H Q => ∃ p ys, xs = [.ref p] ∧ ((SqL K H p ys ∧ ∀ l, H l = none → Q (.ref l) (upd H l (.tup ys))) ∨ (SqT K H p ys ∧ Q (.ref p) H))
def gTupleOf : List D → (D → Prop) → Prop := fun ds q => ∃ d es, ds = [d] ∧ seqD d = some es ∧ q (.tup es)
theorem new_ext {F H : Hp} {p : Addr} {o : HO} (s : Same F H) (h : H p = none) (nt : NT o := by intro ps z; cases z) : Ext [] F H (upd F p o) (upd H p o) ∧ Same (upd F p o) (upd H p o) := by
  refine ⟨Ext.laid s h nt, fun a u e => ?_⟩
  by_cases q : a = p
  · subst q; rw [upd_same] at e ⊢; exact e
  · rw [upd_ne q] at e ⊢; exact s _ _ e
theorem new_none {F H : Hp} {p : Addr} (s : Same F H) (h : H p = none) : F p = none := by
  cases q : F p with
  | none => rfl
  | some u => rw [s _ _ q] at h; cases h
theorem new_same {F H : Hp} {p : Addr} {o : HO} (s : Same F H) (h : H p = none) : Same F (upd F p o) := fun a u e => by
  rw [upd_ne (ne_of_none e (new_none s h))]
  exact e
theorem o_tupleOf : OpN K (rTupleOf K) gTupleOf := by
  rintro F H xs ds q Q s r ⟨d, es, rfl, e, hq⟩ k
  obtain ⟨v, rfl, r1⟩ := r.one
  obtain ⟨a, ys, rfl, h, r2⟩ := r1.seq e
  rcases h with h | h
  · refine ⟨a, ys, rfl, .inl ⟨s.seq h, fun l hl => ?_⟩⟩
    obtain ⟨x1, x2⟩ := new_ext (o := .tup ys) s hl
    exact k _ (.tup es) _ _ x1 x2 (.tup (.inl (.inl upd_same)) (r2.mono (new_same s hl))) hq
  · exact ⟨a, ys, rfl, .inr ⟨SqT_mono s h, k _ (.tup es) F H (.refl _ _ _) s (.tup h r2) hq⟩⟩
def rListOf (K : PySem.W.Frag) : List V → Hp → VK → Prop := fun xs H Q => ∃ p ys, xs = [.ref p] ∧ (SqL K H p ys ∨ SqT K H p ys) ∧ ∀ l, H l = none → Q (.ref l) (upd H l (.lst ys))
def gListOf : List D → (D → Prop) → Prop := fun ds q => ∃ d es, ds = [d] ∧ seqD d = some es ∧ q (.lst es)
theorem o_listOf : OpN K (rListOf K) gListOf := by
  rintro F H xs ds q Q s r ⟨d, es, rfl, e, hq⟩ k
  obtain ⟨v, rfl, r1⟩ := r.one
  obtain ⟨a, ys, rfl, h, r2⟩ := r1.seq e
  refine ⟨a, ys, rfl, h.imp (fun h => s.seq h) (fun h => SqT_mono s h), fun l hl => ?_⟩
  obtain ⟨x1, x2⟩ := new_ext (o := .lst ys) s hl
  exact k _ (.lst es) _ _ x1 x2 (.lst upd_same (r2.mono (new_same s hl))) hq

/-! ### subscripts, displays, slices -/
def gIx : D → D → (D → Prop) → Prop := fun x y q => ∃ es i d, seqD x = some es ∧ y = .int i ∧ atI es i = some d ∧ q d
theorem atI_rep {F : Hp} {xs : List V} {ds : List D} {i : Int} {d : D} (r : Reps K F xs ds) (e : atI ds i = some d) : ∃ v, atI xs i = some v ∧ Rep K F v d := by
  unfold atI at e ⊢
  rw [r.length]
  cases h : ixN ds.length i with
  | none => rw [h] at e; cases e
  | some j =>
    rw [h] at e
    exact r.getD e
theorem o_ix : Op2 K (rIx K) gIx := by
  rintro F H x y d1 d2 q Q s r1 r2 ⟨es, i, d, e, rfl, ei, hq⟩ k
  obtain ⟨a, xs, rfl, h, r3⟩ := r1.seq e
  obtain ⟨v, ev, rv⟩ := atI_rep r3 ei
  have fin : Q v H := k v d F H (.refl _ _ _) s rv hq
  rcases h with h | h
  · exact .inl ⟨a, xs, i, v, rfl, r2.int_of, s.seq h, ev, fin⟩
  · exact .inr (.inl ⟨a, xs, i, v, rfl, r2.int_of, SqT_mono s h, ev, fin⟩)
def wTup (wa : AW) : EW := fun τ q e => wa τ (fun ds τ' => ds.length ≤ 1000 ∧ q (.tup ds) τ') e
theorem de_tup {t : TA} {w : AW} (h : DA K W t w) : DE K W (tTup t) (wTup w) := by
  refine ⟨fun σ H τ F Q q e S hw k x => h.run σ H τ F _ _ e S hw (fun zs ds τ' F' H' t' r' ⟨hl, hq⟩ => ?_) x⟩
  refine ⟨by rw [r'.length]; exact Nat.le_of_lt (small1000 hl), fun p hp => ?_⟩
  obtain ⟨x1, x2⟩ := new_ext (o := .tup zs) t'.ok.sub hp
  exact k _ (.tup ds) τ' _ _ (t'.trans (.small t'.ok x1 x2)) (.tup (.inl (.inl upd_same)) (r'.mono (new_same t'.ok.sub hp))) hq
def wLst (wa : AW) : EW := fun τ q e => wa τ (fun ds τ' => ds.length ≤ 1000 ∧ q (.lst ds) τ') e
theorem de_lst {t : TA} {w : AW} (h : DA K W t w) : DE K W (tLst t) (wLst w) := by
  refine ⟨fun σ H τ F Q q e S hw k x => h.run σ H τ F _ _ e S hw (fun zs ds τ' F' H' t' r' ⟨hl, hq⟩ => ?_) x⟩
  refine ⟨by rw [r'.length]; exact Nat.le_of_lt (small1000 hl), fun p hp => ?_⟩
  obtain ⟨x1, x2⟩ := new_ext (o := .lst zs) t'.ok.sub hp
  exact k _ (.lst ds) τ' _ _ (t'.trans (.small t'.ok x1 x2)) (.lst upd_same (r'.mono (new_same t'.ok.sub hp))) hq
abbrev OW := List Cell → (Option Int → List Cell → Prop) → (Xn → List Cell → Prop) → Prop
structure DO (K : PySem.W.Frag) (W : WX) (t : TO) (w : OW) : Prop where
  run : ∀ σ H τ F Q q e, SOk K F H σ τ → w τ q e → (∀ b τ' F' H', To K F H σ τ F' H' τ' → q b τ' → Q b H') → XTo K W F H σ τ e → t σ H Q
def wNoPart : OW := fun τ q _ => q none τ
def wPart (we : EW) : OW := fun τ q e => we τ (fun d τ' => ∃ i, d = .int i ∧ q (some i) τ') e
theorem do_no : DO K W tNoPart wNoPart := ⟨fun σ H τ F Q q e S hq k _ => k none τ F H (.refl S) hq⟩
theorem do_part {t : TE} {w : EW} (h : DE K W t w) : DO K W (tPart t) (wPart w) := by
  refine ⟨fun σ H τ F Q q e S hw k x => h.run σ H τ F _ _ e S hw (fun z d τ' F' H' t' r ⟨i, ei, hq⟩ => ?_) x⟩
  subst ei
  exact ⟨i, r.int_of, k _ τ' F' H' t' hq⟩
def cutDs {α : Type} (xs : List α) (lo hi : Option Int) : List α := (xs.drop (HT.sIx xs.length 0 lo)).take (HT.sIx xs.length xs.length hi - HT.sIx xs.length 0 lo)
theorem cut_rep {F : Hp} {xs : List V} {ds : List D} {lo hi : Option Int} (r : Reps K F xs ds) : Reps K F (cutV xs lo hi) (cutDs ds lo hi) := by
  unfold cutV cutDs
  rw [r.length]
  exact (r.drop _).take _
/-- a slice of a tuple (the whole of it is the tuple itself) or of a list -/
def rSlA (K : PySem.W.Frag) : V → Option Int → Option Int → Hp → VK → Prop := fun x lo hi H Q => rSlT K x lo hi H Q ∨ rSlL K x lo hi H Q
def wSlT (we : EW) (wl wh : OW) : EW := fun τ q e => we τ (fun d τ1 => wl τ1 (fun lo τ2 => wh τ2 (fun hi τ3 => ∃ es, d = .tup es ∧ ¬ (HT.sIx es.length 0 lo = 0 ∧ HT.sIx es.length es.length hi = es.length) ∧ q (.tup (cutDs es lo hi)) τ3) e) e) e
theorem de_slT {t : TE} {tl th : TO} {w : EW} {wl wh : OW} (h : DE K W t w) (hl : DO K W tl wl) (hh : DO K W th wh) : DE K W (tSl (rSlT K) t tl th) (wSlT w wl wh) := by
  refine ⟨fun σ H τ F Q q e S hw k x => h.run σ H τ F _ _ e S hw (fun z d τ1 F1 H1 t1 r1 h1 => ?_) x⟩
  refine hl.run σ H1 τ1 F1 _ _ e t1.ok h1 (fun lo τ2 F2 H2 t2 h2 => ?_) (x.of t1)
  refine hh.run σ H2 τ2 F2 _ _ e t2.ok h2 (fun hi τ3 F3 H3 t3 h3 => ?_) (x.of (t1.trans t2))
  obtain ⟨es, rfl, hn, hq⟩ := h3
  have r3 := (r1.mono t2.ext.f).mono t3.ext.f
  cases r3 with
  | @tup a xs _ hs r =>
    refine ⟨a, xs, rfl, SqT_mono t3.ok.sub hs, by rw [r.length]; exact hn, fun p hp => ?_⟩
    obtain ⟨x1, x2⟩ := new_ext (o := .tup (cutV xs lo hi)) t3.ok.sub hp
    exact k _ (.tup (cutDs es lo hi)) τ3 _ _ (((t1.trans t2).trans t3).trans (.small t3.ok x1 x2)) (.tup (.inl (.inl upd_same)) ((cut_rep r).mono (new_same t3.ok.sub hp))) hq
def wSlL (we : EW) (wl wh : OW) : EW := fun τ q e => we τ (fun d τ1 => wl τ1 (fun lo τ2 => wh τ2 (fun hi τ3 => ∃ es, (d = .lst es ∨ d = .fl es) ∧ q (.lst (cutDs es lo hi)) τ3) e) e) e
theorem de_slL {t : TE} {tl th : TO} {w : EW} {wl wh : OW} (h : DE K W t w) (hl : DO K W tl wl) (hh : DO K W th wh) : DE K W (tSl (rSlL K) t tl th) (wSlL w wl wh) := by
  refine ⟨fun σ H τ F Q q e S hw k x => h.run σ H τ F _ _ e S hw (fun z d τ1 F1 H1 t1 r1 h1 => ?_) x⟩
  refine hl.run σ H1 τ1 F1 _ _ e t1.ok h1 (fun lo τ2 F2 H2 t2 h2 => ?_) (x.of t1)
  refine hh.run σ H2 τ2 F2 _ _ e t2.ok h2 (fun hi τ3 F3 H3 t3 h3 => ?_) (x.of (t1.trans t2))
  obtain ⟨es, ed, hq⟩ := h3
  have r3 := (r1.mono t2.ext.f).mono t3.ext.f
  have : ∃ a xs, z = .ref a ∧ SqL K F3 a xs ∧ Reps K F3 xs es := by
    rcases ed with rfl | rfl
    · cases r3 with
      | lst h r => exact ⟨_, _, rfl, .inl (.inl h), r⟩
    · cases r3 with
      | fl h r => exact ⟨_, _, rfl, h, r⟩
  obtain ⟨a, xs, rfl, hs, r⟩ := this
  refine ⟨a, xs, rfl, t3.ok.sub.seq hs, fun p hp => ?_⟩
  obtain ⟨x1, x2⟩ := new_ext (o := .lst (cutV xs lo hi)) t3.ok.sub hp
  exact k _ (.lst (cutDs es lo hi)) τ3 _ _ (((t1.trans t2).trans t3).trans (.small t3.ok x1 x2)) (.lst upd_same ((cut_rep r).mono (new_same t3.ok.sub hp))) hq
/-- t + u -/
def gCatT : D → D → (D → Prop) → Prop := fun x y q => ∃ as bs, x = .tup as ∧ y = .tup bs ∧ as ≠ [] ∧ as.length + bs.length ≤ 1000 ∧ q (.tup (as ++ bs))
/-- xs + ys -/
def gCat : D → D → (D → Prop) → Prop := fun x y q => ∃ as bs, x = .lst as ∧ y = .lst bs ∧ as.length + bs.length ≤ 1000 ∧ q (.lst (as ++ bs))
theorem o_cat : Op2 K rCat gCat := by
  rintro F H x y d1 d2 q Q s r1 r2 ⟨as, bs, rfl, rfl, hl, hq⟩ k
  cases r1 with
  | @lst a xs _ h1 r1 =>
    cases r2 with
    | @lst b ys _ h2 r2 =>
      refine ⟨a, b, xs, ys, rfl, rfl, s _ _ h1, s _ _ h2, by rw [r1.length, r2.length]; exact Nat.le_of_lt (small1000 hl), fun p hp => ?_⟩
      obtain ⟨x1, x2⟩ := new_ext (o := .lst (xs ++ ys)) s hp
      exact k _ (.lst (as ++ bs)) _ _ x1 x2 (.lst upd_same ((r1.append r2).mono (new_same s hp))) hq
end
end L3

/-! ## what is walked, targets, comprehensions -/
namespace L3
open PySem PySem.Spec PyProof.Rows L2
variable [TB : TabT]

/-- a list or a tuple that is walked -/
def iSeq (K : PySem.W.Frag) (tl : TE) : TI := fun σ H R => tl σ H fun x H1 => ∃ a, x = .ref a ∧ (((∃ xs, SqL K H1 a xs) ∧ R (Itl K a) H1) ∨ ((∃ xs, SqT K H1 a xs) ∧ R (Itt K a) H1))
theorem pi_seq {X : Cx} {tg l : Expr} {tl : TE} (hl : PE X l tl) : PI X tg l (iSeq X.K tl) := by
  refine ⟨fun pins st σ H R J hh => ?_⟩
  refine thn (hl.run pins st σ H _ J hh) fun val st1 ⟨y, G, J1, rel, way⟩ => ?_
  obtain ⟨adr, hy, way⟩ := way
  subst hy
  cases rel
  have kept : ∀ ob : Obj, Inv X pins σ G { st1 with heap := st1.heap.push ob } := fun ob => J1.kept (t' := st1.toks) fun c u q => Heap.get?_push_of_some _ q
  have fresh : ∀ c ∈ [st1.heap.objs.size], FpOk X pins G c := fun c hc => by
    obtain rfl : c = st1.heap.objs.size := by simpa using hc
    exact J1.fpOk (Nat.le_refl _) (J1.hok.fresh (Nat.le_refl _))
  rcases way with ⟨⟨ys, hq⟩, q⟩ | ⟨⟨ys, hq⟩, q⟩
  · obtain ⟨its, rv, at_, _⟩ := J1.list hq
    exact wpAny_pyIter_list at_.isList ⟨st1.heap.objs.size, [st1.heap.objs.size], _, _, G, rfl, kept _, turn_list adr _, ⟨_, Heap.get?_push_size _ rfl, rfl, rfl⟩, fresh, q⟩
  · obtain ⟨its, rv, at_, _⟩ := J1.tuple hq
    exact wpAny_pyIter_tuple at_ ⟨st1.heap.objs.size, [st1.heap.objs.size], _, _, G, rfl, kept _, turn_tuple adr _, ⟨_, Heap.get?_push_size _ rfl, rfl, rfl⟩, fresh, q⟩

structure ItOk (K : PySem.W.Frag) (F : Hp) (J : It) (ds : List D) : Prop where
  go : ∀ i F2 H, Same F F2 → Same F2 H → i < ds.length → J.go i H
  stop : ∀ F2 H, Same F F2 → Same F2 H → J.stop ds.length H
  yld : ∀ i F2 H x H', Same F F2 → Same F2 H → i < ds.length → J.yld i H x H' → ∃ d F3, ds[i]? = some d ∧ Ext [] F2 H F3 H' ∧ Same F3 H' ∧ Rep K F3 x d
abbrev IW := List Cell → (List D → List Cell → Prop) → (Xn → List Cell → Prop) → Prop
structure DI (K : PySem.W.Frag) (W : WX) (t : TI) (w : IW) : Prop where
  run : ∀ σ H τ F R q e, SOk K F H σ τ → w τ q e → (∀ J ds τ' F' H', To K F H σ τ F' H' τ' → ItOk K F' J ds → q ds τ' → R J H') → XTo K W F H σ τ e → t σ H R
section
variable {K : PySem.W.Frag} {W : WX}
theorem it_list {F : Hp} {a : Addr} {xs : List V} {ds : List D} (h : SqL K F a xs) (r : Reps K F xs ds) : ItOk K F (Itl K a) ds := by
  refine ⟨fun i F2 H s s2 hi => ?_, fun F2 H s s2 => ⟨xs, s2.seq (s.seq h), by rw [r.length]; exact Nat.le_refl _⟩, fun i F2 H x H' s s2 hi y => ?_⟩
  · rw [← r.length] at hi
    exact ⟨xs, xs[i], s2.seq (s.seq h), List.getElem?_eq_getElem hi⟩
  · obtain ⟨rfl, e⟩ := y
    obtain ⟨d, e1, e2⟩ := (r.mono s).get (e xs (s2.seq (s.seq h)))
    exact ⟨d, F2, e1, .refl _ _ _, s2, e2⟩
theorem it_tup {F : Hp} {a : Addr} {xs : List V} {ds : List D} (h : SqT K F a xs) (r : Reps K F xs ds) : ItOk K F (Itt K a) ds := by
  refine ⟨fun i F2 H s s2 hi => ?_, fun F2 H s s2 => ⟨xs, SqT_mono s2 (SqT_mono s h), by rw [r.length]; exact Nat.le_refl _⟩, fun i F2 H x H' s s2 hi y => ?_⟩
  · rw [← r.length] at hi
    exact ⟨xs, xs[i], SqT_mono s2 (SqT_mono s h), List.getElem?_eq_getElem hi⟩
  · obtain ⟨rfl, e⟩ := y
    obtain ⟨d, e1, e2⟩ := (r.mono s).get (e xs (SqT_mono s2 (SqT_mono s h)))
    exact ⟨d, F2, e1, .refl _ _ _, s2, e2⟩
def rangeD (lo : Int) (n : Nat) : List D := (List.range n).map fun i => .int (lo + (i : Nat))
theorem rangeD_length {lo : Int} {n : Nat} : (rangeD lo n).length = n := by unfold rangeD; rw [List.length_map, List.length_range]
theorem rangeD_get {lo : Int} {n i : Nat} (h : i < n) : (rangeD lo n)[i]? = some (.int (lo + (i : Nat))) := by
  unfold rangeD
  rw [List.getElem?_map, List.getElem?_range h]
  rfl
theorem it_range {F : Hp} {lo : Int} {n : Nat} : ItOk K F (Itr lo n) (rangeD lo n) := by
  refine ⟨fun i F2 H s s2 hi => ?_, fun F2 H s s2 => ?_, fun i F2 H x H' s s2 hi y => ?_⟩
  · rw [rangeD_length] at hi; exact hi
  · rw [rangeD_length]; exact Nat.le_refl n
  · rw [rangeD_length] at hi
    obtain ⟨rfl, rfl⟩ := y
    exact ⟨_, F2, rangeD_get hi, .refl _ _ _, s2, .int _⟩
def wSeq (we : EW) : IW := fun τ q e => we τ (fun d τ' => ∃ es, seqD d = some es ∧ q es τ') e
theorem di_seq {t : TE} {w : EW} (h : DE K W t w) : DI K W (iSeq K t) (wSeq w) := by
  refine ⟨fun σ H τ F R q e S hw k x => h.run σ H τ F _ _ e S hw (fun v d τ' F' H' t' r ⟨es, ee, hq⟩ => ?_) x⟩
  obtain ⟨a, xs, rfl, hs, r2⟩ := r.seq ee
  rcases hs with hs | hs
  · exact ⟨a, rfl, .inl ⟨⟨xs, t'.ok.sub.seq hs⟩, k _ es τ' F' H' t' (it_list hs r2) hq⟩⟩
  · exact ⟨a, rfl, .inr ⟨⟨xs, SqT_mono t'.ok.sub hs⟩, k _ es τ' F' H' t' (it_tup hs r2) hq⟩⟩
def wRng1 (wa : AW) : IW := fun τ q e => wa τ (fun ds τ' => ∃ j : Int, ds = [.int j] ∧ -(2 ^ 62) ≤ j ∧ j < 2 ^ 62 ∧ q (rangeD 0 j.toNat) τ') e
theorem di_rng1 {t : TA} {w : AW} (h : DA K W t w) : DI K W (iRng1 t) (wRng1 w) := by
  refine ⟨fun σ H τ F R q e S hw k x => h.run σ H τ F _ _ e S hw (fun vs ds τ' F' H' t' r ⟨j, ej, h1, h2, hq⟩ => ?_) x⟩
  subst ej
  obtain ⟨v, rfl, r1⟩ := r.one
  exact ⟨j, by rw [r1.int_of], h1, h2, k _ _ τ' F' H' t' it_range hq⟩
def wRng2 (wa : AW) : IW := fun τ q e => wa τ (fun ds τ' => ∃ i j : Int, ds = [.int i, .int j] ∧ (-(2 ^ 62) ≤ i ∧ i < 2 ^ 62 ∧ -(2 ^ 62) ≤ j ∧ j < 2 ^ 62) ∧ q (rangeD i (j - i).toNat) τ') e
theorem di_rng2 {t : TA} {w : AW} (h : DA K W t w) : DI K W (iRng2 t) (wRng2 w) := by
  refine ⟨fun σ H τ F R q e S hw k x => h.run σ H τ F _ _ e S hw (fun vs ds τ' F' H' t' r ⟨i, j, ej, h1, hq⟩ => ?_) x⟩
  subst ej
  obtain ⟨v, v', rfl, r1, r2⟩ := r.two
  exact ⟨i, j, by rw [r1.int_of, r2.int_of], h1, k _ _ τ' F' H' t' it_range hq⟩
def zipD (xs ys : List D) : List D := List.zipWith (fun x y => .tup [x, y]) xs ys
theorem zip_get {xs ys : List D} {i : Nat} (h : i < (zipD xs ys).length) : ∃ x y, xs[i]? = some x ∧ ys[i]? = some y ∧ (zipD xs ys)[i]? = some (.tup [x, y]) := by
  have h' : i < min xs.length ys.length := by unfold zipD at h; rw [List.length_zipWith] at h; exact h
  have h1 : i < xs.length := by omega
  have h2 : i < ys.length := by omega
  refine ⟨xs[i], ys[i], List.getElem?_eq_getElem h1, List.getElem?_eq_getElem h2, ?_⟩
  unfold zipD
  rw [List.getElem?_zipWith, List.getElem?_eq_getElem h1, List.getElem?_eq_getElem h2]
theorem same_upd {H : Hp} {p : Addr} {o : HO} (h : H p = none) : Same H (upd H p o) := fun b x e => by
  rw [upd_ne (ne_of_none e h)]
  exact e
theorem it_zip {F : Hp} {J : It} {xs ys : List V} {ds es : List D} (r : Reps K F xs ds) (r' : Reps K F ys es) (hgo : ∀ i H x y, Same F H → xs[i]? = some x → ys[i]? = some y → J.go i H)
    (hst : ∀ i H, Same F H → (xs.length ≤ i ∨ ys.length ≤ i) → J.stop i H)
    (hy : ∀ i H v H', Same F H → J.yld i H v H' → ∃ T x y, v = .ref T ∧ H T = none ∧ H' = upd H T (.tup [x, y]) ∧ xs[i]? = some x ∧ ys[i]? = some y) : ItOk K F J (zipD ds es) := by
  refine ⟨fun i F2 H s s2 hi => ?_, fun F2 H s s2 => ?_, fun i F2 H x H' s s2 hi y => ?_⟩
  · obtain ⟨x, y, e1, e2, _⟩ := zip_get hi
    obtain ⟨v, h1, _⟩ := r.getD e1
    obtain ⟨u, h2, _⟩ := r'.getD e2
    exact hgo i H v u (s.trans s2) h1 h2
  · refine hst _ H (s.trans s2) ?_
    unfold zipD
    rw [List.length_zipWith, r.length, r'.length]
    omega
  · obtain ⟨T, u, v, rfl, hT, rfl, e1, e2⟩ := hy i H x H' (s.trans s2) y
    obtain ⟨a, b, f1, f2, f3⟩ := zip_get hi
    obtain ⟨a', g1, g2⟩ := (r.mono s).get e1
    obtain ⟨b', g3, g4⟩ := (r'.mono s).get e2
    rw [f1] at g1; cases g1
    rw [f2] at g3; cases g3
    obtain ⟨x1, x2⟩ := new_ext (o := .tup [u, v]) s2 hT
    have sm := new_same (o := .tup [u, v]) s2 hT
    exact ⟨_, _, f3, x1, x2, .tup (.inl (.inl upd_same)) (.cons (g2.mono sm) (.cons (g4.mono sm) .nil))⟩
def wZip (wa : AW) : IW := fun τ q e => wa τ (fun ds τ' => ∃ xs ys, (ds = [.tup xs, .tup ys] ∨ ds = [.lst xs, .lst ys] ∨ ds = [.fl xs, .lst ys] ∨ ds = [.lst xs, .fl ys]) ∧ q (zipD xs ys) τ') e
theorem SqT.inj' {F H : Hp} {a : Addr} {xs ys : List V} (h : SqT K F a xs) : True := trivial
theorem di_zip {t : TA} {w : AW} (h : DA K W t w) : DI K W (RZ.iZipA K t) (wZip w) := by
  refine ⟨fun σ H τ F R q e S hw k x => h.run σ H τ F _ _ e S hw (fun vs ds τ' F' H' t' r ⟨xs, ys, ej, hq⟩ => ?_) x⟩
  have lst : ∀ {d1 d2 : D}, ds = [d1, d2] → seqD d1 = some xs → seqD d2 = some ys → (∀ z : List D, d1 ≠ .tup z) → (∀ z : List D, d2 ≠ .tup z) →
      ∃ a b us vs', vs = [.ref a, .ref b] ∧ SqL K F' a us ∧ SqL K F' b vs' ∧ Reps K F' us xs ∧ Reps K F' vs' ys := by
    rintro d1 d2 rfl e1 e2 n1 n2
    obtain ⟨v, v', rfl, r1, r2⟩ := r.two
    have key : ∀ {v : V} {d : D} {zs : List D}, Rep K F' v d → seqD d = some zs → (∀ z : List D, d ≠ .tup z) → ∃ a us, v = .ref a ∧ SqL K F' a us ∧ Reps K F' us zs := by
      intro v d zs r e n
      cases r with
      | tup h r => exact absurd rfl (n _)
      | lst h r => cases e; exact ⟨_, _, rfl, .inl (.inl h), r⟩
      | fl h r => cases e; exact ⟨_, _, rfl, h, r⟩
      | _ => cases e
    obtain ⟨a, us, rfl, h1, h2⟩ := key r1 e1 n1
    obtain ⟨b, ws, rfl, h3, h4⟩ := key r2 e2 n2
    exact ⟨a, b, us, ws, rfl, h1, h3, h2, h4⟩
  have finL : (∃ a b us vs', vs = [.ref a, .ref b] ∧ SqL K F' a us ∧ SqL K F' b vs' ∧ Reps K F' us xs ∧ Reps K F' vs' ys) → RZ.iZipA K (fun _ H Q => Q vs H) σ H' R := by
    rintro ⟨a, b, us, ws, rfl, h1, h3, h2, h4⟩
    refine ⟨a, b, us, ws, rfl, .inl ⟨t'.ok.sub.seq h1, t'.ok.sub.seq h3, k _ _ τ' F' H' t' (it_zip h2 h4 ?_ ?_ ?_) hq⟩⟩
    · exact fun i H x y s e1 e2 => ⟨us, ws, x, y, s.seq h1, s.seq h3, e1, e2⟩
    · exact fun i H s e => ⟨us, ws, s.seq h1, s.seq h3, e⟩
    · rintro i H v H' s ⟨T, x, y, rfl, hT, rfl, e1, e2⟩
      exact ⟨T, x, y, rfl, hT, rfl, e1 _ (s.seq h1), e2 _ (s.seq h3)⟩
  rcases ej with rfl | rfl | rfl | rfl
  · obtain ⟨v, v', rfl, r1, r2⟩ := r.two
    cases r1 with
    | @tup a us _ h1 h2 =>
      cases r2 with
      | @tup b ws _ h3 h4 =>
        refine ⟨a, b, us, ws, rfl, .inr ⟨SqT_mono t'.ok.sub h1, SqT_mono t'.ok.sub h3, k _ _ τ' F' H' t' (it_zip h2 h4 ?_ ?_ ?_) hq⟩⟩
        · exact fun i H x y s e1 e2 => ⟨us, ws, x, y, SqT_mono s h1, SqT_mono s h3, e1, e2⟩
        · exact fun i H s e => ⟨us, ws, SqT_mono s h1, SqT_mono s h3, e⟩
        · rintro i H v H' s ⟨T, x, y, rfl, hT, rfl, e1, e2⟩
          exact ⟨T, x, y, rfl, hT, rfl, e1 _ (SqT_mono s h1), e2 _ (SqT_mono s h3)⟩
  · exact finL (lst rfl rfl rfl (fun z e => by cases e) (fun z e => by cases e))
  · exact finL (lst rfl rfl rfl (fun z e => by cases e) (fun z e => by cases e))
  · exact finL (lst rfl rfl rfl (fun z e => by cases e) (fun z e => by cases e))

/-! ### targets -/
abbrev GW := D → List Cell → (List Cell → Prop) → Prop
abbrev GsW := List D → List Cell → (List Cell → Prop) → Prop
structure DG (K : PySem.W.Frag) (vs : List Nat) (g : TG) (w : GW) : Prop where
  run : ∀ σ H τ F v d Q q, SOk K F H σ τ → Rep K F v d → w d τ q → (∀ σ' τ', SOk K F H σ' τ' → (∀ p, IsOwn τ' p → IsOwn τ p) → (∀ j, j ∉ vs → σ'[j]? = σ[j]?) → σ'.length = σ.length → q τ' → Q σ' H) → g v σ H Q
structure DGs (K : PySem.W.Frag) (vs : List Nat) (g : TGs) (w : GsW) : Prop where
  run : ∀ σ H τ F us ds Q q, SOk K F H σ τ → Reps K F us ds → w ds τ q → (∀ σ' τ', SOk K F H σ' τ' → (∀ p, IsOwn τ' p → IsOwn τ p) → (∀ j, j ∉ vs → σ'[j]? = σ[j]?) → σ'.length = σ.length → q τ' → Q σ' H) → g us σ H Q
theorem SOk.set {F H : Hp} {σ : L2.St} {τ : List Cell} {i : Nat} {v : V} {d : D} (S : SOk K F H σ τ) (r : Rep K F v d) : SOk K F H (σ.set i (some v)) (τ.set i (.dat d)) := by
  refine ⟨S.tabs, S.sub, by rw [List.length_set, List.length_set, S.len], fun j s c h1 h2 => ?_, fun j c h => ?_, S.inj.set fun a z => z.elim⟩
  rotate_left
  · rcases set_get h with ⟨_, rfl, _⟩ | ⟨_, h⟩
    · exact trivial
    · exact S.own j c h
  by_cases e : i = j
  · subst e
    by_cases hl : i < σ.length
    · rw [List.getElem?_set_self hl] at h1
      rw [List.getElem?_set_self (by rw [← S.len]; exact hl)] at h2
      cases h1; cases h2
      exact ⟨v, rfl, r⟩
    · rw [List.getElem?_eq_none (by rw [List.length_set]; exact Nat.le_of_not_lt hl)] at h1
      cases h1
  · rw [List.getElem?_set_ne e] at h1 h2
    exact S.slot j s c h1 h2
def wName (i : Nat) : GW := fun d τ q => q (τ.set i (.dat d))
theorem dg_name (i : Nat) : DG K [i] (gName i) (wName i) := by
  refine ⟨fun σ H τ F v d Q q S r hw k => ?_⟩
  refine k (σ.set i (some v)) (τ.set i (.dat d)) (S.set r) (fun p h => isOwn_set (c := .dat d) (fun a z => z) h) (fun j hj => ?_) (List.length_set ..) hw
  rw [List.getElem?_set_ne (fun z => hj (by rw [z]; exact List.mem_cons_self ..))]
def wNilT : GsW := fun ds τ q => ds = [] ∧ q τ
def wConsT (w : GW) (u : GsW) : GsW := fun ds τ q => ∃ d r, ds = d :: r ∧ w d τ fun τ' => u r τ' q
theorem dgs_nil : DGs K [] gNil wNilT := by
  refine ⟨fun σ H τ F us ds Q q S r ⟨e, hq⟩ k => ?_⟩
  subst e
  cases r
  exact ⟨rfl, k σ τ S (fun _ h => h) (fun _ _ => rfl) rfl hq⟩
theorem dgs_cons {vs ws : List Nat} {g : TG} {u : TGs} {w : GW} {wu : GsW} (h : DG K vs g w) (h' : DGs K ws u wu) : DGs K (vs ++ ws) (gCons g u) (wConsT w wu) := by
  refine ⟨fun σ H τ F us ds Q q S r hw k => ?_⟩
  obtain ⟨d, rs, rfl, hw⟩ := hw
  cases r with
  | @cons v vs' _ _ r1 r2 =>
    refine ⟨v, vs', rfl, ?_⟩
    refine h.run σ H τ F v d _ _ S r1 hw fun σ1 τ1 S1 o1 a1 l1 hw1 => ?_
    refine h'.run σ1 H τ1 F vs' rs _ _ S1 r2 hw1 fun σ2 τ2 S2 o2 a2 l2 hq => ?_
    refine k σ2 τ2 S2 (fun p hp => o1 p (o2 p hp)) (fun j hj => ?_) (l2.trans l1) hq
    rw [List.mem_append, not_or] at hj
    exact (a2 j hj.2).trans (a1 j hj.1)
def wTupT (n : Nat) (w : GsW) : GW := fun d τ q => ∃ ds, d = .tup ds ∧ ds.length = n ∧ w ds τ q
theorem dg_tup {vs : List Nat} {n : Nat} {g : TGs} {w : GsW} (h : DGs K vs g w) : DG K vs (gTup K n g) (wTupT n w) := by
  refine ⟨fun σ H τ F v d Q q S r hw k => ?_⟩
  obtain ⟨ds, rfl, hn, hw⟩ := hw
  cases r with
  | @tup a xs _ hs r =>
    exact ⟨a, xs, rfl, SqT_mono S.sub hs, by rw [r.length]; exact hn, h.run σ H τ F xs ds _ _ S r hw k⟩

/-! ### comprehensions -/
theorem wipe_get : ∀ (vs : List Nat) (σ : L2.St) (j : Nat), (wipe σ vs)[j]? = if j ∈ vs ∧ j < σ.length then some none else σ[j]?
  | [], σ, j => by unfold wipe; simp
  | v :: vs, σ, j => by
    unfold wipe
    by_cases e : v = j
    · subst e
      by_cases hl : v < σ.length
      · rw [List.getElem?_set_self (by rw [wipe_length]; exact hl), if_pos ⟨List.mem_cons_self .., hl⟩]
      · rw [List.getElem?_eq_none (by rw [List.length_set, wipe_length]; exact Nat.le_of_not_lt hl), if_neg (fun z => hl z.2), List.getElem?_eq_none (Nat.le_of_not_lt hl)]
    · rw [List.getElem?_set_ne e, wipe_get vs σ j]
      have : (j ∈ v :: vs) ↔ j ∈ vs := by
        rw [List.mem_cons]
        exact ⟨fun h => h.elim (fun z => absurd z.symm e) id, .inr⟩
      simp only [this]
def wipeD (τ : List Cell) : List Nat → List Cell
  | [] => τ
  | v :: vs => (wipeD τ vs).set v .any
theorem wipeD_length (τ : List Cell) : ∀ vs : List Nat, (wipeD τ vs).length = τ.length
  | [] => rfl
  | v :: vs => by unfold wipeD; rw [List.length_set, wipeD_length τ vs]
theorem wipeD_get : ∀ (vs : List Nat) (τ : List Cell) (j : Nat), (wipeD τ vs)[j]? = if j ∈ vs ∧ j < τ.length then some .any else τ[j]?
  | [], σ, j => by unfold wipeD; simp
  | v :: vs, σ, j => by
    unfold wipeD
    by_cases e : v = j
    · subst e
      by_cases hl : v < σ.length
      · rw [List.getElem?_set_self (by rw [wipeD_length]; exact hl), if_pos ⟨List.mem_cons_self .., hl⟩]
      · rw [List.getElem?_eq_none (by rw [List.length_set, wipeD_length]; exact Nat.le_of_not_lt hl), if_neg (fun z => hl z.2), List.getElem?_eq_none (Nat.le_of_not_lt hl)]
    · rw [List.getElem?_set_ne e, wipeD_get vs σ j]
      have : (j ∈ v :: vs) ↔ j ∈ vs := by
        rw [List.mem_cons]
        exact ⟨fun h => h.elim (fun z => absurd z.symm e) id, .inr⟩
      simp only [this]
theorem wipeD_own {τ : List Cell} {vs : List Nat} {j : Nat} {c : Cell} (h : (wipeD τ vs)[j]? = some c) : c = .any ∨ (τ[j]? = some c ∧ j ∉ vs) := by
  rw [wipeD_get] at h
  split at h
  · cases h; exact .inl rfl
  · rename_i n
    exact .inr ⟨h, fun hj => n ⟨hj, (List.getElem?_eq_some_iff.mp h).1⟩⟩
theorem wipeD_has {τ : List Cell} {vs : List Nat} {j : Nat} {c : Cell} {a : Addr} (h : (wipeD τ vs)[j]? = some c) (f : Has c a) : τ[j]? = some c := by
  rcases wipeD_own h with rfl | h
  · exact f.elim
  · exact h.1
/-- slots are forgotten; the values there may be any -/
theorem SOk.wiped {F H : Hp} {σ σ' : L2.St} {τ : List Cell} {vs : List Nat} (S : SOk K F H σ τ) (hl : σ'.length = σ.length) (h : ∀ j, j ∉ vs → σ'[j]? = σ[j]?) : SOk K F H σ' (wipeD τ vs) := by
  refine ⟨S.tabs, S.sub, by rw [hl, S.len, wipeD_length], fun j s c h1 h2 => ?_, fun j c e => ?_, fun j k c d a e1 e2 f1 f2 => S.inj j k c d a (wipeD_has e1 f1) (wipeD_has e2 f2) f1 f2⟩
  rotate_left
  · rcases wipeD_own e with rfl | e
    · exact trivial
    · exact S.own j c e.1
  rw [wipeD_get] at h2
  split at h2
  · cases h2; exact trivial
  · rename_i n
    have hj : j ∉ vs := fun hj => n ⟨hj, (List.getElem?_eq_some_iff.mp h2).1⟩
    rw [h j hj] at h1
    exact S.slot j s c h1 h2
theorem wipe_ne {σ : L2.St} {vs : List Nat} {j : Nat} (h : j ∉ vs) : (wipe σ vs)[j]? = σ[j]? := by
  rw [wipe_get, if_neg (fun z => h z.1)]
theorem wipe_eq {σ σ2 : L2.St} {vs ws : List Nat} (hs : ∀ j ∈ ws, j ∈ vs) (hl : σ2.length = (wipe σ vs).length) (h : ∀ j, j ∉ ws → σ2[j]? = (wipe σ vs)[j]?) : wipe σ2 vs = wipe σ vs := by
  apply List.ext_getElem?
  intro j
  rw [wipe_get vs σ2, wipe_get vs σ]
  rw [wipe_length] at hl
  rw [hl]
  by_cases hj : j ∈ vs ∧ j < σ.length
  · rw [if_pos hj, if_pos hj]
  · rw [if_neg hj, if_neg hj]
    by_cases hw : j ∈ ws
    · have hn : ¬ j < σ.length := fun z => hj ⟨hs j hw, z⟩
      rw [List.getElem?_eq_none (by omega), List.getElem?_eq_none (by omega)]
    · rw [h j hw, wipe_get, if_neg hj]
/-- a thing that is no data and not own is changed -/
theorem To.touch {F H F1 H1 : Hp} {σ : L2.St} {τ τ1 : List Cell} {p : Addr} {o : HO} (t : To K F H σ τ F1 H1 τ1) (h : Fr H p) (h1 : F1 p = none) (n : ¬ IsOwn τ1 p) (ht : LamX.Tabs TB.T H1 → LamX.Tabs TB.T (upd H1 p o)) : To K F H σ τ F1 (upd H1 p o) τ1 := by
  have nt1 : LamX.Tabs TB.T H1 → LamX.Tabs TB.T (upd H1 p o) := ht
  refine ⟨⟨t.ext.f, t.ext.new, fun a u e z nt => ?_, fun a e => ?_, fun z => ⟨nt1 (t.ext.tabs z).1, (t.ext.tabs z).2⟩⟩, t.grow, ⟨⟨nt1 t.ok.tabs.1, t.ok.tabs.2⟩, fun a u e => ?_, t.ok.len, t.ok.slot, fun i c e => (t.ok.own i c e).move (Same.refl _) fun a f => ?_, t.ok.inj⟩⟩
  · rw [upd_ne (fr_ne e nt h)]
    exact t.ext.keep a u e z nt
  · by_cases q : a = p
    · subst q; exact h
    · exact t.ext.there a fun o' e' => e o' (by rw [upd_ne q]; exact e')
  · rw [upd_ne (ne_of_none e h1)]
    exact t.ok.sub a u e
  · refine ⟨((t.ok.own i c e).has f).1, fun u hu _ => ?_⟩
    rw [upd_ne (fun z => n ⟨i, c, e, by rw [← z]; exact f⟩)]
    exact hu
/-- .. becomes data -/
theorem To.freeze {F H F1 H1 : Hp} {σ : L2.St} {τ τ1 : List Cell} {p : Addr} {o : HO} (t : To K F H σ τ F1 H1 τ1) (h : Fr H p) (h1 : F1 p = none) (h2 : H1 p = some o) (n : ¬ IsOwn τ1 p) (nt : NT o := by intro ps z; cases z) : To K F H σ τ (upd F1 p o) H1 τ1 := by
  have s : Same F1 (upd F1 p o) := same_upd h1
  refine ⟨⟨t.ext.f.trans s, fun a u e => ?_, t.ext.keep, t.ext.there, fun z => ⟨(t.ext.tabs z).1, nt_upd nt (t.ext.tabs z).2⟩⟩, t.grow, ⟨⟨t.ok.tabs.1, nt_upd nt t.ok.tabs.2⟩, fun a u e => ?_, t.ok.len, fun i v c e1 e2 => (t.ok.slot i v c e1 e2).mono s, fun i c e => (t.ok.own i c e).move s fun a f => ⟨?_, fun u hu _ => hu⟩, t.ok.inj⟩⟩
  · by_cases q : a = p
    · subst q; exact .inr (.inl h)
    · rw [upd_ne q] at e; exact t.ext.new a u e
  · by_cases q : a = p
    · subst q; rw [upd_same] at e; rw [h2]; exact e
    · rw [upd_ne q] at e; exact t.ok.sub a u e
  · rw [upd_ne (fun z => n ⟨i, c, e, by rw [← z]; exact f⟩)]
    exact ((t.ok.own i c e).has f).1
theorem To.at {F H F1 H1 : Hp} {σ σ' : L2.St} {τ τ1 τ2 : List Cell} (t : To K F H σ τ F1 H1 τ1) (S : SOk K F1 H1 σ' τ2) (o : ∀ p, IsOwn τ2 p → IsOwn τ1 p) : To K F H σ' τ F1 H1 τ2 := ⟨t.ext, fun p h => t.grow p (o p h), S⟩
theorem To.not_own {F H F1 H1 : Hp} {σ : L2.St} {τ τ1 : List Cell} (t : To K F H σ τ F1 H1 τ1) {p : Addr} {o : HO} (n : ¬ IsOwn τ p) (h : H p = some o) (nt : NT o := by intro ps z; cases z) : ¬ IsOwn τ1 p := fun z => by
  rcases t.grow p z with z | z
  · exact n z
  · exact z _ h nt
theorem To.not_data {F H F1 H1 : Hp} {σ : L2.St} {τ τ1 : List Cell} (t : To K F H σ τ F1 H1 τ1) {p : Addr} {o : HO} (n : ¬ IsOwn τ p) (h : H p = some o) (hf : F p = none) (nt : NT o := by intro ps z; cases z) : F1 p = none := by
  cases q : F1 p with
  | none => rfl
  | some u =>
    rcases t.ext.new p u q with z | z | z
    · rw [hf] at z; cases z
    · exact (z _ h nt).elim
    · exact absurd z n
def noX : Xn → List Cell → Prop := fun _ _ => False
abbrev W0 : WX := fun _ _ _ _ => False
theorem xto0 {F H : Hp} {σ : L2.St} {τ : List Cell} : XTo K W0 F H σ τ noX := fun _ _ _ _ _ _ _ _ h => h
def wYes : TW := fun τ q _ => q true τ
theorem dt_yes : DT K W tYes wYes := ⟨fun σ H τ F Q q e S hq k _ => k true τ F H (.refl S) hq⟩
def wLc (wI : IW) (wg : GW) (wt : TW) (we : EW) (vs : List Nat) : EW := fun τ q e => wI τ (fun ds τ1 => ds.length ≤ 1000 ∧ ∃ inv : Nat → List D → List Cell → Prop, inv 0 [] (wipeD τ1 vs) ∧
  (∀ i d acc τ2, ds[i]? = some d → inv i acc τ2 → acc.length ≤ i → wg d τ2 fun τ3 => wt τ3 (fun b τ4 => (b = true → we τ4 (fun y τ5 => inv (i + 1) (acc ++ [y]) (wipeD τ5 vs)) noX) ∧ (b = false → inv (i + 1) acc (wipeD τ4 vs))) noX) ∧
  ∀ acc τ2, inv ds.length acc (wipeD τ2 vs) → acc.length ≤ ds.length → q (.lst acc) (wipeD τ2 vs)) e
theorem wipeD_idem {τ : List Cell} {vs : List Nat} : wipeD (wipeD τ vs) vs = wipeD τ vs := by
  apply List.ext_getElem?
  intro j
  rw [wipeD_get, wipeD_length, wipeD_get]
  by_cases h : j ∈ vs ∧ j < τ.length
  · rw [if_pos h, if_pos h]
  · rw [if_neg h, if_neg h]
theorem isOwn_wipe {τ : List Cell} {vs : List Nat} {p : Addr} (h : IsOwn (wipeD τ vs) p) : IsOwn τ p := by
  obtain ⟨i, c, e, f⟩ := h
  exact ⟨i, c, wipeD_has e f, f⟩
/-- the comprehension's turns: D the new list -/
theorem lc_turns {J : It} {g : TG} {tt : TT} {te : TE} {vs ws : List Nat} {wg : GW} {wt : TW} {we : EW} {σ : L2.St} {F1 H1 : Hp} {τ1 : List Cell} {ds : List D} {Qd : Hp → Prop} {Da : Addr} {inv : Nat → List D → List Cell → Prop}
    (hg : DG K ws g wg) (ht : DT K W0 tt wt) (he : DE K W0 te we) (hs : ∀ j ∈ ws, j ∈ vs) (S : SOk K F1 H1 σ τ1) (it : ItOk K F1 J ds) (hD : H1 Da = none) (hn : ds.length ≤ 1000) (h0 : inv 0 [] (wipeD τ1 vs))
    (hst : ∀ i d acc τ2, ds[i]? = some d → inv i acc τ2 → acc.length ≤ i → wg d τ2 fun τ3 => wt τ3 (fun b τ4 => (b = true → we τ4 (fun y τ5 => inv (i + 1) (acc ++ [y]) (wipeD τ5 vs)) noX) ∧ (b = false → inv (i + 1) acc (wipeD τ4 vs))) noX)
    (hd : ∀ accV acc F2 H2 τ2, To K F1 H1 (wipe σ vs) τ1 F2 H2 (wipeD τ2 vs) → F2 Da = none → ¬ IsOwn (wipeD τ2 vs) Da → H2 Da = some (.lst accV) → Reps K F2 accV acc → acc.length ≤ ds.length → inv ds.length acc (wipeD τ2 vs) → Qd H2) :
    ∃ W : Nat → Nat → Hp → Prop, (∃ m, W 0 m (upd H1 Da (.lst []))) ∧ ∀ i m H, W i m H → (J.stop i H ∧ Qd H) ∨ (J.go i H ∧ ∃ Nx : Hp → Prop, (∀ H', Nx H' → ∃ m', m' < m ∧ W (i + 1) m' H') ∧ ∀ x H', J.yld i H x H' → g x (wipe σ vs) H' fun σ2 H2 => wipe σ2 vs = wipe σ vs ∧ tt σ2 H2 fun b H3 =>
    if b = true then te σ2 H3 fun y H4 => ∃ acc, H4 Da = some (.lst acc) ∧ acc.length < sizeLine ∧ Nx (upd H4 Da (.lst (acc ++ [y]))) else Nx H3) := by
  let Inv (i : Nat) (H : Hp) : Prop := ∃ accV acc F2 τ2, To K F1 H1 (wipe σ vs) τ1 F2 H (wipeD τ2 vs) ∧ F2 Da = none ∧ ¬ IsOwn (wipeD τ2 vs) Da ∧ H Da = some (.lst accV) ∧ Reps K F2 accV acc ∧ acc.length ≤ i ∧ inv i acc (wipeD τ2 vs)
  have S1 : SOk K F1 H1 (wipe σ vs) (wipeD τ1 vs) := S.wiped (wipe_length σ vs) fun j hj => wipe_ne hj
  have F1D : F1 Da = none := by
    cases q : F1 Da with
    | none => rfl
    | some u => rw [S.sub _ _ q] at hD; cases hD
  have no1 : ¬ IsOwn τ1 Da := fun z => by
    obtain ⟨_, us, e2, _⟩ := S.own.has z
    rw [hD] at e2; cases e2
  have start : Inv 0 (upd H1 Da (.lst [])) := by
    refine ⟨[], [], F1, τ1, To.touch ⟨.refl _ _ _, fun p h => .inl (isOwn_wipe h), S1⟩ (fr_none hD) F1D (fun z => no1 (isOwn_wipe z)) (tabs_new hD), F1D, fun z => no1 (isOwn_wipe z), upd_same, .nil, Nat.le_refl _, h0⟩
  refine ⟨fun i m H => m = ds.length - i ∧ i ≤ ds.length ∧ Inv i H, ⟨_, rfl, Nat.zero_le _, start⟩, ?_⟩
  rintro i m H ⟨rfl, hi, accV, acc, F2, τ2, T, fD, nD, hH, ra, la, hinv⟩
  have s12 : Same F1 F2 := T.ext.f
  by_cases hlt : i < ds.length
  · refine .inr ⟨it.go i F2 H s12 T.ok.sub hlt, Inv (i + 1), fun H' p' => ⟨ds.length - (i + 1), by omega, rfl, hlt, p'⟩, fun x H' y => ?_⟩
    obtain ⟨d, F3, ed, x3, s3, r3⟩ := it.yld i F2 H x H' s12 T.ok.sub hlt y
    have T3 : To K F2 H (wipe σ vs) (wipeD τ2 vs) F3 H' (wipeD τ2 vs) := .small T.ok x3 s3
    refine hg.run _ H' _ F3 x d _ _ T3.ok r3 (hst i d acc _ ed hinv la) fun σ4 τ4 S4 o4 a4 l4 h4 => ?_
    have ew : wipe σ4 vs = wipe σ vs := wipe_eq hs (by rw [l4]) (fun j hj => a4 j hj)
    refine ⟨ew, ?_⟩
    have T4 : To K F2 H σ4 (wipeD τ2 vs) F3 H' τ4 := T3.at S4 o4
    refine ht.run σ4 H' τ4 F3 _ _ noX S4 h4 (fun b τ5 F5 H5 t5 ⟨h5, h6⟩ => ?_) xto0
    have T5 := T4.trans t5
    have back : ∀ {F6 H6 : Hp} {τ6 : List Cell}, To K F2 H σ4 (wipeD τ2 vs) F6 H6 τ6 → To K F1 H1 (wipe σ vs) τ1 F6 H6 (wipeD τ6 vs) := fun {F6 H6 τ6} t =>
      (T.trans t).at (t.ok.wiped (by rw [← ew, wipe_length]) fun j hj => by rw [← ew]; exact wipe_ne hj) fun p h => isOwn_wipe h
    cases b with
    | false =>
      refine iteF ?_
      have n5 := T5.not_own nD hH
      refine ⟨accV, acc, F5, τ5, back T5, T5.not_data nD hH fD, fun z => n5 (isOwn_wipe z), T5.ext.keep Da _ hH nD nt_lst, ra.mono T5.ext.f, Nat.le_succ_of_le la, h6 rfl⟩
    | true =>
      refine iteT ?_
      refine he.run σ4 H5 τ5 F5 _ _ noX t5.ok (h5 rfl) (fun yv yd τ6 F6 H6 t6 r6 h7 => ?_) xto0
      have T6 := T5.trans t6
      have n6 := T6.not_own nD hH
      refine ⟨accV, T6.ext.keep Da _ hH nD nt_lst, by rw [ra.length]; exact Nat.lt_of_le_of_lt la (small1000 (by omega)), ?_⟩
      have nw : ¬ IsOwn (wipeD τ6 vs) Da := fun z => n6 (isOwn_wipe z)
      refine ⟨accV ++ [yv], acc ++ [yd], F6, τ6, (back T6).touch (fr_none hD) (T6.not_data nD hH fD) nw (tabs_lst (T6.ext.keep Da _ hH nD nt_lst)), T6.not_data nD hH fD, nw, upd_same, (ra.mono T6.ext.f).append (.cons r6 .nil), ?_, h7⟩
      rw [List.length_append, List.length_singleton]
      omega
  · have e : i = ds.length := by omega
    subst e
    exact .inl ⟨it.stop F2 H s12 T.ok.sub, hd accV acc F2 H τ2 T fD nD hH ra la hinv⟩
theorem de_lc {wi : TI} {g : TG} {tt : TT} {te : TE} {vs ws : List Nat} {wI : IW} {wg : GW} {wt : TW} {we : EW} (hi : DI K W wi wI) (hg : DG K ws g wg) (ht : DT K W0 tt wt) (he : DE K W0 te we) (hs : ∀ j ∈ ws, j ∈ vs) :
    DE K W (tLc wi g tt te vs) (wLc wI wg wt we vs) := by
  refine ⟨fun σ H τ F Q q e S hw k x => hi.run σ H τ F _ _ e S hw (fun J ds τ1 F1 H1 t1 it ⟨hn, inv, h0, hst, hd⟩ Da hD => ?_) x⟩
  refine lc_turns hg ht he hs t1.ok it hD hn h0 hst fun accV acc F2 H2 τ2 T fD nD hH ra la hinv => ?_
  refine k (.ref Da) (.lst acc) (wipeD τ2 vs) (upd F2 Da (.lst accV)) H2 ?_ (.lst upd_same (ra.mono (same_upd fD))) (hd acc τ2 hinv la)
  have T2 := T.freeze (fr_none hD) fD hH nD
  refine t1.trans (To.at (τ1 := wipeD τ2 vs) T2 ?_ fun p h => h)
  rw [← wipeD_idem]
  exact T2.ok.wiped (by rw [wipe_length]) fun j hj => (wipe_ne hj).symm
end
end L3

/-! ## statements -/
namespace L3
open PySem PySem.Spec PyProof.Rows L2
variable [TB : TabT]
section
variable {K : PySem.W.Frag} {W : WX}
structure Ret (K : PySem.W.Frag) (F H : Hp) (τ : List Cell) (F' H' : Hp) (τ' : List Cell) : Prop where
  ext : Ext τ F H F' H'
  grow : Grow τ H τ'
  sub : Same F' H'
  own : OwnOk K F' H' τ'
  inj : InjOk τ'
theorem To.ret {F H F' H' : Hp} {σ : L2.St} {τ τ' : List Cell} (t : To K F H σ τ F' H' τ') : Ret K F H τ F' H' τ' := ⟨t.ext, t.grow, t.ok.sub, t.ok.own, t.ok.inj⟩
theorem Ret.pre {F H F1 H1 F2 H2 : Hp} {σ : L2.St} {τ τ1 τ2 : List Cell} (a : To K F H σ τ F1 H1 τ1) (b : Ret K F1 H1 τ1 F2 H2 τ2) : Ret K F H τ F2 H2 τ2 :=
  ⟨a.ext.trans a.grow b.ext, .trans a.ext a.grow b.grow, b.sub, b.own, b.inj⟩
theorem To.back {F H F1 H1 : Hp} {σ : L2.St} {τ τ1 : List Cell} (t : To K F H σ τ F1 H1 τ1) {p : Addr} (h : Fr H1 p) : Fr H p := t.ext.there p h
structure Out (K : PySem.W.Frag) (W : WX) (F H : Hp) (τ : List Cell) (E : EndsD) (Dn : Ends) : Prop where
  nx : ∀ σ' τ' F' H', To K F H σ' τ F' H' τ' → E.nx τ' → Dn.nx σ' H'
  bk : ∀ σ' τ' F' H', To K F H σ' τ F' H' τ' → E.bk τ' → Dn.bk σ' H'
  ct : ∀ σ' τ' F' H', To K F H σ' τ F' H' τ' → E.ct τ' → Dn.ct σ' H'
  rt : ∀ v d τ' F' H', Ret K F H τ F' H' τ' → Rep K F' v d → E.rt d τ' → Dn.rt v H'
  ex : ∀ σ', XTo K W F H σ' τ E.ex
  rf : ∀ p k τ' F' H', Ret K F H τ F' H' τ' → CellOk K F' H' (.own p k) → (∀ a, Has (.own p k) a → Fr H a ∧ ¬ IsOwn τ' a) → E.rf k τ' → Dn.rt (.ref p) H'
  rg : ∀ p k τ' F' H', Ret K F H τ F' H' τ' → CellOk K F' H' (.own p k) → (∀ a, Has (.own p k) a → (Fr H a ∨ IsOwn τ a) ∧ ¬ IsOwn τ' a) → E.rg k τ' → Dn.rt (.ref p) H'
theorem Out.of {F H F1 H1 : Hp} {σ : L2.St} {τ τ1 : List Cell} {E : EndsD} {Dn : Ends} (o : Out K W F H τ E Dn) (t : To K F H σ τ F1 H1 τ1) : Out K W F1 H1 τ1 E Dn :=
  ⟨fun σ' τ' F' H' u q => o.nx σ' τ' F' H' (t.trans u) q, fun σ' τ' F' H' u q => o.bk σ' τ' F' H' (t.trans u) q, fun σ' τ' F' H' u q => o.ct σ' τ' F' H' (t.trans u) q,
    fun v d τ' F' H' u r q => o.rt v d τ' F' H' (u.pre t) r q, fun σ' x cls dx τ' F' H' u r q => o.ex σ' x cls dx τ' F' H' (t.trans u) r q,
    fun p k τ' F' H' u c n q => o.rf p k τ' F' H' (u.pre t) c (fun a f => ⟨t.back (n a f).1, (n a f).2⟩) q,
    fun p k τ' F' H' u c n q => o.rg p k τ' F' H' (u.pre t) c (fun a f => ⟨(n a f).1.elim (fun z => .inl (t.back z)) fun z => (t.grow a z).symm, (n a f).2⟩) q⟩
structure DS (K : PySem.W.Frag) (W : WX) (t : TS) (w : SW) : Prop where
  run : ∀ σ H τ F Dn E, SOk K F H σ τ → w E τ → Out K W F H τ E Dn → t Dn σ H
theorem Out.xto {F H : Hp} {σ : L2.St} {τ : List Cell} {E : EndsD} {Dn : Ends} (o : Out K W F H τ E Dn) : XTo K W F H σ τ E.ex := o.ex σ

def wNext : SW := fun E τ => E.nx τ
theorem ds_nil : DS K W tNext wNext := ⟨fun σ H τ F Dn E S h o => o.nx σ τ F H (.refl S) h⟩
def wSq (w u : SW) : SW := fun E τ => w { E with nx := u E } τ
theorem ds_seq {t u : TS} {w v : SW} (h : DS K W t w) (g : DS K W u v) : DS K W (tSeq t u) (wSq w v) := by
  refine ⟨fun σ H τ F Dn E S hw o => h.run σ H τ F { Dn with nx := u Dn } { E with nx := v E } S hw ?_⟩
  exact ⟨fun σ' τ' F' H' t' q => g.run σ' H' τ' F' Dn E t'.ok q (o.of t'), o.bk, o.ct, o.rt, o.ex, o.rf, o.rg⟩
def wBreak : SW := fun E τ => E.bk τ
theorem ds_break : DS K W tBreak wBreak := ⟨fun σ H τ F Dn E S h o => o.bk σ τ F H (.refl S) h⟩
def wCont : SW := fun E τ => E.ct τ
theorem ds_cont : DS K W tCont wCont := ⟨fun σ H τ F Dn E S h o => o.ct σ τ F H (.refl S) h⟩
def wDrop (we : EW) : SW := fun E τ => we τ (fun _ τ' => E.nx τ') E.ex
theorem ds_drop {t : TE} {w : EW} (h : DE K W t w) : DS K W (tDrop t) (wDrop w) :=
  ⟨fun σ H τ F Dn E S hw o => h.run σ H τ F _ _ E.ex S hw (fun v d τ' F' H' t' r q => o.nx σ τ' F' H' t' q) o.xto⟩
def wRet (we : EW) : SW := fun E τ => we τ E.rt E.ex
theorem ds_ret {t : TE} {w : EW} (h : DE K W t w) : DS K W (tRet t) (wRet w) :=
  ⟨fun σ H τ F Dn E S hw o => h.run σ H τ F _ _ E.ex S hw (fun v d τ' F' H' t' r q => o.rt v d τ' F' H' t'.ret r q) o.xto⟩
def wRetN : SW := fun E τ => E.rt .non τ
theorem ds_retN : DS K W tRetN wRetN := ⟨fun σ H τ F Dn E S h o => o.rt .non .non τ F H (To.refl S).ret .non h⟩
def wIfS (wc : TW) (w u : SW) : SW := fun E τ => wc τ (fun b τ' => (b = true → w E τ') ∧ (b = false → u E τ')) E.ex
theorem ds_if {c : TT} {t u : TS} {wc : TW} {w v : SW} (h : DT K W c wc) (g : DS K W t w) (l : DS K W u v) : DS K W (tIfS c t u) (wIfS wc w v) := by
  refine ⟨fun σ H τ F Dn E S hw o => h.run σ H τ F _ _ E.ex S hw (fun b τ' F' H' t' ⟨h1, h2⟩ => ?_) o.xto⟩
  cases b with
  | true => exact iteT (g.run σ H' τ' F' Dn E t'.ok (h1 rfl) (o.of t'))
  | false => exact iteF (l.run σ H' τ' F' Dn E t'.ok (h2 rfl) (o.of t'))
def wAsg (we : EW) (wg : GW) : SW := fun E τ => we τ (fun d τ' => wg d τ' E.nx) E.ex
theorem ds_asg {t : TE} {w : EW} {vs : List Nat} {g : TG} {wg : GW} (h : DE K W t w) (l : DG K vs g wg) : DS K W (tAsg t g) (wAsg w wg) := by
  refine ⟨fun σ H τ F Dn E S hw o => h.run σ H τ F _ _ E.ex S hw (fun v d τ' F' H' t' r hq => ?_) o.xto⟩
  refine l.run σ H' τ' F' v d _ _ t'.ok r hq fun σ2 τ2 S2 o2 _ _ q => ?_
  exact o.nx σ2 τ2 F' H' (t'.at S2 o2) q
/-- a, b = e1, e2 -/
def wPar (i j : Nat) (wa : AW) : SW := fun E τ => wa τ (fun ds τ' => ∃ d d', ds = [d, d'] ∧ E.nx ((τ'.set i (.dat d)).set j (.dat d'))) E.ex
theorem ds_par {i j : Nat} {t : TA} {w : AW} (h : DA K W t w) : DS K W (tPar i j t) (wPar i j w) := by
  refine ⟨fun σ H τ F Dn E S hw o => h.run σ H τ F _ _ E.ex S hw (fun vs ds τ' F' H' t' r ⟨d, d', e, hq⟩ => ?_) o.xto⟩
  subst e
  obtain ⟨v, v', rfl, r1, r2⟩ := r.two
  refine ⟨v, v', rfl, ?_⟩
  refine o.nx _ _ F' H' (t'.at ((t'.ok.set r1).set r2) fun p h => ?_) hq
  exact isOwn_set (c := .dat d) (fun a z => z) (isOwn_set (c := .dat d') (fun a z => z) h)

/-! ### lists of the frame's own -/
theorem SOk.setCell {F H : Hp} {σ : L2.St} {τ : List Cell} {i : Nat} {v : V} {c : Cell} (S : SOk K F H σ τ) (co : CellOk K F H c) (sl : SlotOk K F (some v) c) (n : ∀ a, Has c a → ¬ IsOwn τ a) :
    SOk K F H (σ.set i (some v)) (τ.set i c) := by
  refine ⟨S.tabs, S.sub, by rw [List.length_set, List.length_set, S.len], fun j s c' h1 h2 => ?_, fun j d h => ?_, S.inj.set fun a z j d _ e f => n a z ⟨j, d, e, f⟩⟩
  · by_cases e : i = j
    · subst e
      by_cases hl : i < σ.length
      · rw [List.getElem?_set_self hl] at h1
        rw [List.getElem?_set_self (by rw [← S.len]; exact hl)] at h2
        cases h1; cases h2
        exact sl
      · rw [List.getElem?_eq_none (by rw [List.length_set]; exact Nat.le_of_not_lt hl)] at h1
        cases h1
    · rw [List.getElem?_set_ne e] at h1 h2
      exact S.slot j s c' h1 h2
  · rcases set_get h with ⟨_, rfl, _⟩ | ⟨_, h⟩
    · exact co
    · exact S.own j d h
theorem SOk.setOwn {F H : Hp} {σ : L2.St} {τ : List Cell} {i : Nat} {p : Addr} {ds : Cont} (S : SOk K F H σ τ) (co : CellOk K F H (.own p ds)) (n : ∀ a, Has (.own p ds) a → ¬ IsOwn τ a) :
    SOk K F H (σ.set i (some (.ref p))) (τ.set i (.own p ds)) := S.setCell co rfl n
theorem flat_has {k : Cont} (fl : Flat k) {p a : Addr} (h : Has (.own p k) a) : a = p := h.elim id fun z => absurd z fl.no
theorem new_not_own {F H : Hp} {σ : L2.St} {τ : List Cell} {p : Addr} (S : SOk K F H σ τ) (h : H p = none) : ¬ IsOwn τ p := fun z => by
  obtain ⟨_, us, e2, _⟩ := S.own.has z
  rw [h] at e2; cases e2
theorem new_not_data {F H : Hp} {σ : L2.St} {τ : List Cell} {p : Addr} (S : SOk K F H σ τ) (h : H p = none) : F p = none := by
  cases q : F p with
  | none => rfl
  | some u => rw [S.sub _ _ q] at h; cases h
/-- x = [..], x a list of the frame's own -/
def wLstOwn (i : Nat) (wa : AW) : SW := fun E τ => wa τ (fun ds τ' => ds.length ≤ 1000 ∧ ∀ p, E.nx (τ'.set i (.own p (.lst ds)))) E.ex
theorem grow_set {F H F' H' : Hp} {σ : L2.St} {τ τ' : List Cell} {i : Nat} {c : Cell} (t : To K F H σ τ F' H' τ') (n : ∀ a, Has c a → Fr H a) : Grow τ H (τ'.set i c) := fun q ⟨j, d, h, f⟩ => by
  rcases set_get h with ⟨_, rfl, _⟩ | ⟨_, h⟩
  · exact .inr (n q f)
  · exact t.grow q ⟨j, d, h, f⟩
theorem to_own {F H F' H' : Hp} {σ : L2.St} {τ τ' : List Cell} {i : Nat} {p : Addr} {ds : Cont} {vs : HO} (t : To K F H σ τ F' H' τ') (hp : H' p = none) (r : CRep K F' vs ds) (fl : Flat ds := by trivial) :
    To K F H (σ.set i (some (.ref p))) τ F' (upd H' p vs) (τ'.set i (.own p ds)) := by
  have nO := new_not_own t.ok hp
  have nF := new_not_data t.ok hp
  have hp0 : Fr H p := t.ext.there p (fr_none hp)
  have T2 := t.touch (o := vs) hp0 nF nO (tabs_new hp)
  exact ⟨T2.ext, grow_set T2 fun a f => by rw [flat_has fl f]; exact hp0, T2.ok.setOwn (.flat fl nF upd_same r) fun a f => by rw [flat_has fl f]; exact nO⟩
theorem ds_lstOwn {i : Nat} {t : TA} {w : AW} (h : DA K W t w) : DS K W (tAsg (tLst t) (gName i)) (wLstOwn i w) := by
  refine ⟨fun σ H τ F Dn E S hw o => h.run σ H τ F _ _ E.ex S hw (fun vs ds τ' F' H' t' r ⟨hl, hq⟩ => ?_) o.xto⟩
  refine ⟨by rw [r.length]; exact Nat.le_of_lt (small1000 hl), fun p hp => ?_⟩
  exact o.nx _ _ F' _ (to_own t' hp (.lst r)) (hq p)
/-- what stands in an own list is changed -/
theorem to_change {F H F' H' : Hp} {σ : L2.St} {τ τ' : List Cell} {i : Nat} {p : Addr} {ds es : Cont} {vs : HO} (t : To K F H σ τ F' H' τ') (h : τ'[i]? = some (.own p ds)) (r : CRep K F' vs es) (fl : Flat ds := by trivial) (fl' : Flat es := by trivial) :
    To K F H σ τ F' (upd H' p vs) (τ'.set i (.own p es)) := by
  have hi : i < τ'.length := (List.getElem?_eq_some_iff.mp h).1
  have own1 : IsOwn τ' p := isOwn_at h
  obtain ⟨hF, us, hH, hR, _⟩ := t.ok.own i _ h
  have nt1 : LamX.Tabs TB.T H' → LamX.Tabs TB.T (upd H' p vs) := tabs_crep hH hR
  refine ⟨⟨t.ext.f, t.ext.new, fun a u e z nt => ?_, fun a e => ?_, fun z => ⟨nt1 (t.ext.tabs z).1, (t.ext.tabs z).2⟩⟩, fun q ⟨j, c, e, f⟩ => ?_, ⟨⟨nt1 t.ok.tabs.1, t.ok.tabs.2⟩, fun a u e => ?_, by rw [List.length_set]; exact t.ok.len, fun j s c h1 h2 => ?_, fun j c e => ?_, t.ok.inj.set fun a f j d nj e f2 => ?_⟩⟩
  · by_cases q : a = p
    · subst q
      rcases t.grow a own1 with z' | z'
      · exact absurd z' z
      · exact (z' _ e nt).elim
    · rw [upd_ne q]; exact t.ext.keep a u e z nt
  · by_cases q : a = p
    · subst q; exact (e _ upd_same r.nt).elim
    · exact t.ext.there a fun o' e' => e o' (by rw [upd_ne q]; exact e')
  · rcases set_get e with ⟨_, rfl, _⟩ | ⟨_, e⟩
    · rw [flat_has fl' f]; exact t.grow _ own1
    · exact t.grow q ⟨j, c, e, f⟩
  · rw [upd_ne (fun z => by rw [z, hF] at e; cases e)]
    exact t.ok.sub a u e
  · rcases set_get h2 with ⟨rfl, rfl, _⟩ | ⟨_, h2⟩
    · exact (show s = some (.ref p) from t.ok.slot j s _ h1 h)
    · exact t.ok.slot j s c h1 h2
  · rcases set_get e with ⟨rfl, rfl, _⟩ | ⟨n, e⟩
    · exact .flat fl' hF upd_same r
    · refine (t.ok.own j c e).move (Same.refl _) fun a f => ⟨((t.ok.own j c e).has f).1, fun u hu _ => ?_⟩
      rw [upd_ne (fun z => n (t.ok.inj j i c _ a e h f (.inl z)))]
      exact hu
  · have f := flat_has fl' f
    subst f
    exact nj (t.ok.inj j i d _ a e h f2 (.inl rfl))
theorem own_at {F H : Hp} {σ : L2.St} {τ : List Cell} {i : Nat} {p : Addr} {ds : Cont} (S : SOk K F H σ τ) (h : τ[i]? = some (.own p ds)) : σ[i]? = some (some (.ref p)) ∧ F p = none ∧ ∃ vs, H p = some vs ∧ CRep K F vs ds := by
  have hi : i < σ.length := by rw [S.len]; exact (List.getElem?_eq_some_iff.mp h).1
  have e : σ[i] = some (.ref p) := S.slot i σ[i] _ (List.getElem?_eq_getElem hi) h
  obtain ⟨h1, vs, h2, h3, _⟩ := S.own i _ h
  exact ⟨by rw [List.getElem?_eq_getElem hi, e], h1, vs, h2, h3⟩
theorem own_lst {F H : Hp} {σ : L2.St} {τ : List Cell} {i : Nat} {p : Addr} {ds : List D} (S : SOk K F H σ τ) (h : τ[i]? = some (.own p (.lst ds))) : σ[i]? = some (some (.ref p)) ∧ F p = none ∧ ∃ vs, H p = some (.lst vs) ∧ Reps K F vs ds := by
  obtain ⟨h1, h2, o, h3, h4⟩ := own_at S h
  cases h4 with
  | @lst vs _ r => exact ⟨h1, h2, vs, h3, r⟩
/-- x.append(e), x an own list: as a statement -/
def wAppend (i : Nat) (wa : AW) : SW := fun E τ => (∃ p es, τ[i]? = some (.own p (.lst es))) ∧ wa τ (fun ds τ' => ∃ p es d, ds = [d] ∧ τ'[i]? = some (.own p (.lst es)) ∧ es.length < 1000 ∧ E.nx (τ'.set i (.own p (.lst (es ++ [d]))))) E.ex
theorem ds_append {i : Nat} {t : TA} {w : AW} (h : DA K W t w) : DS K W (tDrop (tBM K "list" rAppend (tVar i) t)) (wAppend i w) := by
  refine ⟨fun σ H τ F Dn E S ⟨⟨p, es, e0⟩, hw⟩ o => ?_⟩
  obtain ⟨s0, _, vs0, h0, _⟩ := own_lst S e0
  refine ⟨.ref p, s0, .inl ⟨rfl, vs0, .inl (.inl h0)⟩, ?_⟩
  refine h.run σ H τ F _ _ E.ex S hw (fun vs ds τ' F' H' t' r ⟨p', es', d, ed, e1, hl, hq⟩ => ?_) o.xto
  subst ed
  obtain ⟨v, rfl, r1⟩ := r.one
  obtain ⟨s1, _, vs1, h1, r2⟩ := own_lst t'.ok e1
  rw [s0] at s1
  cases s1
  refine ⟨p, vs1, v, rfl, rfl, h1, by rw [r2.length]; exact small1000 (Nat.le_of_lt hl), ?_⟩
  exact o.nx σ _ F' _ (to_change t' e1 (.lst (r2.append (.cons r1 .nil)))) hq
/-- x[k] = e, x an own list -/
def wSetOwn (i : Nat) (we wk : EW) : SW := fun E τ => we τ (fun d τ1 => (∃ p es, τ1[i]? = some (.own p (.lst es))) ∧ wk τ1 (fun k τ2 => ∃ p es n j, τ2[i]? = some (.own p (.lst es)) ∧ k = .int n ∧ ixN es.length n = some j ∧ E.nx (τ2.set i (.own p (.lst (es.set j d))))) E.ex) E.ex
theorem ds_setOwn {i : Nat} {t u : TE} {w v : EW} (h : DE K W t w) (g : DE K W u v) : DS K W (tAsg t (gSub (tVar i) u rSetL)) (wSetOwn i w v) := by
  refine ⟨fun σ H τ F Dn E S hw o => h.run σ H τ F _ _ E.ex S hw (fun x d τ1 F1 H1 t1 r1 ⟨⟨p, es, e0⟩, h1⟩ => ?_) o.xto⟩
  obtain ⟨s0, _, vs0, h0, _⟩ := own_lst t1.ok e0
  refine ⟨.ref p, s0, ?_⟩
  refine g.run σ H1 τ1 F1 _ _ E.ex t1.ok h1 (fun y k τ2 F2 H2 t2 r2 ⟨p', es', n, j, e1, ek, ej, hq⟩ => ?_) (o.of t1).xto
  subst ek
  obtain ⟨s1, _, vs1, h2, r3⟩ := own_lst t2.ok e1
  rw [s0] at s1
  cases s1
  refine ⟨p, vs1, n, j, rfl, r2.int_of, h2, by rw [r3.length]; exact ej, ?_⟩
  exact o.nx σ _ F2 _ (to_change (t1.trans t2) e1 (.lst (Reps.set (r1.mono t2.ext.f) j r3))) hq
/-- x[k] of an own list -/
def wIxOwn (i : Nat) (wk : EW) : EW := fun τ q e => (∃ p es, τ[i]? = some (.own p (.lst es))) ∧ wk τ (fun k τ1 => ∃ p es n d, τ1[i]? = some (.own p (.lst es)) ∧ k = .int n ∧ atI es n = some d ∧ q d τ1) e
theorem de_ixOwn {i : Nat} {t : TE} {w : EW} (h : DE K W t w) : DE K W (tOp (rIx K) (tVar i) t) (wIxOwn i w) := by
  refine ⟨fun σ H τ F Q q e S ⟨⟨p, es, e0⟩, hw⟩ k x => ?_⟩
  obtain ⟨s0, _, vs0, h0, _⟩ := own_lst S e0
  refine ⟨.ref p, s0, ?_⟩
  refine h.run σ H τ F _ _ e S hw (fun y kd τ1 F1 H1 t1 r1 ⟨p', es', n, d, e1, ek, ea, hq⟩ => ?_) x
  subst ek
  obtain ⟨s1, _, vs1, h1, r2⟩ := own_lst t1.ok e1
  rw [s0] at s1
  cases s1
  obtain ⟨v, ev, rv⟩ := atI_rep r2 ea
  exact .inl ⟨p, vs1, n, v, rfl, r1.int_of, .inl (.inl h1), ev, k v d τ1 F1 H1 t1 rv hq⟩
/-- a built-in of an own list alone that keeps nothing of it: len, tuple, list .. -/
def OpPeek (K : PySem.W.Frag) (r : List V → Hp → VK → Prop) (g : List D → (D → Prop) → Prop) : Prop :=
  ∀ F H p vs ds (q : D → Prop) Q, Same F H → H p = some (.lst vs) → Reps K F vs ds → g ds q → (∀ v d F' H', Ext [] F H F' H' → Same F' H' → Rep K F' v d → q d → Q v H') → r [.ref p] H Q
def wPeek (i : Nat) (g : List D → (D → Prop) → Prop) : EW := fun τ q _ => ∃ p es, τ[i]? = some (.own p (.lst es)) ∧ g es fun d => q d τ
theorem de_peek {i : Nat} {r : List V → Hp → VK → Prop} {g : List D → (D → Prop) → Prop} (o : OpPeek K r g) : DE K W (tCB r (tCons (tVar i) tNil)) (wPeek i g) := by
  refine ⟨fun σ H τ F Q q e S ⟨p, es, e0, hg⟩ k x => ?_⟩
  obtain ⟨s0, _, vs0, h0, r0⟩ := own_lst S e0
  refine ⟨.ref p, s0, ?_⟩
  exact o F H p vs0 es _ Q S.sub h0 r0 hg fun v d F' H' x1 s1 rv hq => k v d τ F' H' (.small S x1 s1) rv hq
theorem p_len : OpPeek K (rLenS K) (fun es q => q (.int es.length)) := fun F H p vs ds q Q s h r hq k =>
  ⟨p, vs, rfl, .inl (.inl (.inl h)), k _ (.int ds.length) F H (.refl _ _ _) s (by rw [r.length]; exact .int _) hq⟩
theorem p_tupleOf : OpPeek K (rTupleOf K) (fun es q => q (.tup es)) := fun F H p vs ds q Q s h r hq k => by
  refine ⟨p, vs, rfl, .inl ⟨.inl (.inl h), fun l hl => ?_⟩⟩
  obtain ⟨x1, x2⟩ := new_ext (o := .tup vs) s hl
  exact k _ (.tup ds) _ _ x1 x2 (.tup (.inl (.inl upd_same)) (r.mono (new_same s hl))) hq
theorem p_listOf : OpPeek K (rListOf K) (fun es q => q (.lst es)) := fun F H p vs ds q Q s h r hq k => by
  refine ⟨p, vs, rfl, .inl (.inl (.inl h)), fun l hl => ?_⟩
  obtain ⟨x1, x2⟩ := new_ext (o := .lst vs) s hl
  exact k _ (.lst ds) _ _ x1 x2 (.lst upd_same (r.mono (new_same s hl))) hq
/-- return x, x an own list: it becomes data -/
def wRetOwn (i : Nat) : SW := fun E τ => ∃ p es, τ[i]? = some (.own p (.lst es)) ∧ E.rt (.lst es) (τ.set i .any)
theorem ds_retOwn {i : Nat} : DS K W (tRet (tVar i)) (wRetOwn i) := by
  refine ⟨fun σ H τ F Dn E S ⟨p, es, e0, hq⟩ o => ?_⟩
  obtain ⟨s0, f0, vs0, h0, r0⟩ := own_lst S e0
  refine ⟨.ref p, s0, ?_⟩
  have s : Same F (upd F p (.lst vs0)) := same_upd f0
  refine o.rt (.ref p) (.lst es) (τ.set i .any) (upd F p (.lst vs0)) H ⟨⟨s, fun a u e => ?_, fun _ _ e _ _ => e, fun _ e => e, fun g => ⟨g.1, nt_upd nt_lst g.2⟩⟩, fun q h => .inl (isOwn_set (c := .any) (fun a z => z) h), fun a u e => ?_, fun j c e => ?_, S.inj.set fun a z => z.elim⟩ (.lst upd_same (r0.mono s)) hq
  · by_cases q : a = p
    · subst q; exact .inr (.inr (isOwn_at e0))
    · rw [upd_ne q] at e; exact .inl e
  · by_cases q : a = p
    · subst q; rw [upd_same] at e; rw [h0]; exact e
    · rw [upd_ne q] at e; exact S.sub a u e
  · rcases set_get e with ⟨_, rfl, _⟩ | ⟨n, e⟩
    · exact trivial
    · refine (S.own j c e).move s fun a f => ⟨?_, fun u hu _ => hu⟩
      rw [upd_ne (fun z => n (S.inj j i c _ a e e0 f (.inl z)))]
      exact ((S.own j c e).has f).1

/-- in a def that hands back a list of its own -/
def wRetFr (wa : AW) : SW := fun E τ => wa τ (fun ds τ' => ds.length ≤ 1000 ∧ E.rf (.lst ds) τ') E.ex
theorem ds_retFr {t : TA} {w : AW} (h : DA K W t w) : DS K W (tRet (tLst t)) (wRetFr w) := by
  refine ⟨fun σ H τ F Dn E S hw o => h.run σ H τ F _ _ E.ex S hw (fun vs ds τ' F' H' t' r ⟨hl, hq⟩ => ?_) o.xto⟩
  refine ⟨by rw [r.length]; exact Nat.le_of_lt (small1000 hl), fun p hp => ?_⟩
  have hp0 := t'.back (fr_none hp)
  have nF := new_not_data t'.ok hp
  have nO := new_not_own t'.ok hp
  exact o.rf p (.lst ds) τ' F' _ (t'.touch hp0 nF nO (tabs_new hp)).ret (.flat trivial nF upd_same (.lst r)) (fun a f => by rw [flat_has (k := .lst ds) trivial f]; exact ⟨hp0, nO⟩) hq
def wRetOwnFr (i : Nat) : SW := fun E τ => ∃ p es, τ[i]? = some (.own p (.lst es)) ∧ E.rf (.lst es) (τ.set i .any)

/-! ### for -/
def wFor (wI : IW) (wg : GW) (wb : SW) : SW := fun E τ => wI τ (fun ds τ1 => ∃ inv : Nat → List Cell → Prop, inv 0 τ1 ∧
  (∀ i d τ2, ds[i]? = some d → inv i τ2 → wg d τ2 fun τ3 => wb { E with nx := inv (i + 1), ct := inv (i + 1), bk := E.nx } τ3) ∧ ∀ τ2, inv ds.length τ2 → E.nx τ2) E.ex
theorem ds_for {wi : TI} {g : TG} {tb : TS} {vs : List Nat} {wI : IW} {wg : GW} {wb : SW} (hi : DI K W wi wI) (hg : DG K vs g wg) (hb : DS K W tb wb) : DS K W (tFor wi g tb) (wFor wI wg wb) := by
  refine ⟨fun σ H τ F Dn E S hw o => hi.run σ H τ F _ _ E.ex S hw (fun J ds τ1 F1 H1 t1 it ⟨inv, h0, hst, hd⟩ => ?_) o.xto⟩
  have o1 := o.of t1
  refine ⟨fun i m σ2 H2 => m = ds.length - i ∧ i ≤ ds.length ∧ ∃ τ2 F2, To K F1 H1 σ2 τ1 F2 H2 τ2 ∧ inv i τ2, ⟨_, rfl, Nat.zero_le _, τ1, F1, .refl t1.ok, h0⟩, ?_⟩
  rintro i m σ2 H2 ⟨rfl, hle, τ2, F2, t2, hinv⟩
  by_cases hlt : i < ds.length
  · refine .inr ⟨it.go i F2 H2 t2.ext.f t2.ok.sub hlt, fun σ' H' => ∃ τ' F', To K F1 H1 σ' τ1 F' H' τ' ∧ inv (i + 1) τ', fun σ' H' ⟨τ', F', t', q⟩ => ⟨ds.length - (i + 1), by omega, rfl, hlt, τ', F', t', q⟩, fun x H' y => ?_⟩
    obtain ⟨d, F3, ed, x3, s3, r3⟩ := it.yld i F2 H2 x H' t2.ext.f t2.ok.sub hlt y
    have T3 : To K F1 H1 σ2 τ1 F3 H' τ2 := t2.trans (.small t2.ok x3 s3)
    refine hg.run σ2 H' τ2 F3 x d _ _ T3.ok r3 (hst i d τ2 ed hinv) fun σ4 τ4 S4 o4 _ _ h4 => ?_
    have T4 : To K F1 H1 σ4 τ1 F3 H' τ4 := T3.at S4 o4
    refine hb.run σ4 H' τ4 F3 _ _ S4 h4 ?_
    have o4 := o1.of T4
    exact ⟨fun σ' τ' F' H' u q => ⟨τ', F', T4.trans u, q⟩, fun σ' τ' F' H' u q => o4.nx σ' τ' F' H' u q, fun σ' τ' F' H' u q => ⟨τ', F', T4.trans u, q⟩, o4.rt, o4.ex, o4.rf, o4.rg⟩
  · have e : i = ds.length := by omega
    subst e
    exact .inl ⟨it.stop F2 H2 t2.ext.f t2.ok.sub, o1.nx σ2 τ2 F2 H2 t2 (hd τ2 hinv)⟩

/-! ### defs and their calls -/
abbrev FS := List Cell → (D → List Cell → Prop) → (Xn → List Cell → Prop) → Prop
/-- what stands behind a call where the own lists were handed in -/
structure CsOk (K : PySem.W.Frag) (H0 F H : Hp) (cs cs' : List Cell) : Prop where
  len : cs'.length = cs.length
  same : ∀ (i : Nat) (p : Addr) (ds : Cont), cs[i]? = some (Cell.own p ds) → ∃ ds', cs'[i]? = some (Cell.own p ds')
  own : OwnOk K F H cs'
  inj : InjOk cs'
  grow : Grow cs H0 cs'
  only : ∀ (i : Nat) (c : Cell) (a : Addr), cs'[i]? = some c → Has c a → ∃ p ds, cs[i]? = some (Cell.own p ds)
def spOf (K : PySem.W.Frag) (n : Nat) (fs : FS) : Sp := fun vs H Q E => vs.length = n ∧ ∃ F cs q e, SOk K F H (vs.map some) cs ∧ fs cs q e ∧
  (∀ v d cs' F' H', Ext cs F H F' H' → Same F' H' → CsOk K H F' H' cs cs' → Rep K F' v d → q d cs' → Q v H') ∧
  (∀ x cls dx cs' F' H', Ext cs F H F' H' → Same F' H' → CsOk K H F' H' cs cs' → XRep K F' H' cls dx x → e x cs' → E cls dx H')
/-- the own parameters are still there -/
def Keeps : List Cell → List Cell → Prop
  | [], _ => True
  | _ :: _, [] => False
  | .own p _ :: cs, c :: τ => (∃ ds', c = .own p ds') ∧ Keeps cs τ
  | .any :: cs, _ :: τ => Keeps cs τ
  | .dat _ :: cs, _ :: τ => Keeps cs τ
def ends : List Cell → List Cell → List Cell
  | [], _ => []
  | cs, [] => cs
  | .own p ds :: cs, c :: τ => c :: ends cs τ
  | .any :: cs, _ :: τ => .any :: ends cs τ
  | .dat d :: cs, _ :: τ => .dat d :: ends cs τ
theorem ends_length : ∀ (cs τ : List Cell), (ends cs τ).length = cs.length
  | [], _ => by unfold ends; rfl
  | .own p ds :: cs, c :: τ => by unfold ends; rw [List.length_cons, List.length_cons, ends_length cs τ]
  | .any :: cs, c :: τ => by unfold ends; rw [List.length_cons, List.length_cons, ends_length cs τ]
  | .dat d :: cs, c :: τ => by unfold ends; rw [List.length_cons, List.length_cons, ends_length cs τ]
  | c :: cs, [] => by cases c <;> rfl
theorem ends_own : ∀ {cs τ : List Cell} {i : Nat} {p : Addr} {ds : Cont}, Keeps cs τ → cs[i]? = some (.own p ds) → ∃ ds', (ends cs τ)[i]? = some (.own p ds') ∧ τ[i]? = some (.own p ds')
  | [], _, i, p, ds, _, h => by simp at h
  | c :: cs, [], i, q, es, k, h => k.elim
  | .own p ds :: cs, c :: τ, 0, q, es, ⟨⟨ds', e⟩, k⟩, h => by
    cases h
    subst e
    exact ⟨ds', rfl, rfl⟩
  | .any :: cs, c :: τ, 0, q, es, k, h => by cases h
  | .dat d :: cs, c :: τ, 0, q, es, k, h => by cases h
  | .own p ds :: cs, c :: τ, i + 1, q, es, ⟨_, k⟩, h => by
    obtain ⟨ds', h1, h2⟩ := ends_own (i := i) k (by simpa using h)
    exact ⟨ds', by unfold ends; simpa using h1, by simpa using h2⟩
  | .any :: cs, c :: τ, i + 1, q, es, k, h => by
    obtain ⟨ds', h1, h2⟩ := ends_own (cs := cs) (τ := τ) (i := i) k (by simpa using h)
    exact ⟨ds', by unfold ends; simpa using h1, by simpa using h2⟩
  | .dat d :: cs, c :: τ, i + 1, q, es, k, h => by
    obtain ⟨ds', h1, h2⟩ := ends_own (cs := cs) (τ := τ) (i := i) k (by simpa using h)
    exact ⟨ds', by unfold ends; simpa using h1, by simpa using h2⟩
theorem ends_has : ∀ {cs τ : List Cell} {i : Nat} {c : Cell} {a : Addr}, Keeps cs τ → (ends cs τ)[i]? = some c → Has c a → τ[i]? = some c ∧ ∃ p ds, cs[i]? = some (.own p ds)
  | [], _, i, c, a, _, h, _ => by simp [ends] at h
  | c :: cs, [], i, d, a, k, h, _ => k.elim
  | .own p ds :: cs, c :: τ, 0, q, es, _, h, _ => by
    have h : c = q := by simpa [ends] using h
    subst h
    exact ⟨rfl, p, ds, rfl⟩
  | .any :: cs, c :: τ, 0, q, es, k, h, f => by
    have h : Cell.any = q := by simpa [ends] using h
    subst h
    exact f.elim
  | .dat d :: cs, c :: τ, 0, q, es, k, h, f => by
    have h : Cell.dat d = q := by simpa [ends] using h
    subst h
    exact f.elim
  | .own p ds :: cs, c :: τ, i + 1, q, es, ⟨_, k⟩, h, f => by
    obtain ⟨h1, p', ds', h2⟩ := ends_has (i := i) k (by simpa [ends] using h) f
    exact ⟨by simpa using h1, p', ds', by simpa using h2⟩
  | .any :: cs, c :: τ, i + 1, q, es, k, h, f => by
    obtain ⟨h1, p', ds', h2⟩ := ends_has (cs := cs) (τ := τ) (i := i) k (by simpa [ends] using h) f
    exact ⟨by simpa using h1, p', ds', by simpa using h2⟩
  | .dat d :: cs, c :: τ, i + 1, q, es, k, h, f => by
    obtain ⟨h1, p', ds', h2⟩ := ends_has (cs := cs) (τ := τ) (i := i) k (by simpa [ends] using h) f
    exact ⟨by simpa using h1, p', ds', by simpa using h2⟩
theorem ends_ok : ∀ {cs τ : List Cell} {i : Nat} {c : Cell}, Keeps cs τ → (ends cs τ)[i]? = some c → c = .any ∨ (∃ d, c = .dat d) ∨ τ[i]? = some c
  | [], _, i, c, _, h => by simp [ends] at h
  | c :: cs, [], i, d, k, h => k.elim
  | .own p ds :: cs, c :: τ, 0, q, _, h => .inr (.inr (by simpa [ends] using h))
  | .any :: cs, c :: τ, 0, q, k, h => .inl (by simpa [ends] using h.symm)
  | .dat d :: cs, c :: τ, 0, q, k, h => .inr (.inl ⟨d, by simpa [ends] using h.symm⟩)
  | .own p ds :: cs, c :: τ, i + 1, q, ⟨_, k⟩, h => by
    have := ends_ok (i := i) (c := q) k (by simpa [ends] using h)
    simpa using this
  | .any :: cs, c :: τ, i + 1, q, k, h => by
    have := ends_ok (cs := cs) (τ := τ) (i := i) (c := q) k (by simpa [ends] using h)
    simpa using this
  | .dat d :: cs, c :: τ, i + 1, q, k, h => by
    have := ends_ok (cs := cs) (τ := τ) (i := i) (c := q) k (by simpa [ends] using h)
    simpa using this
theorem cs_ok {H0 F H : Hp} {cs τ : List Cell} (k : Keeps cs τ) (o : OwnOk K F H τ) (inj : InjOk τ) (g : Grow cs H0 τ) : CsOk K H0 F H cs (ends cs τ) := by
  refine ⟨ends_length cs τ, fun i p ds h => ?_, fun i c h => ?_, fun i j c d a h1 h2 f1 f2 => inj i j c d a (ends_has k h1 f1).1 (ends_has k h2 f2).1 f1 f2, fun a ⟨i, c, h, f⟩ => g a ⟨i, c, (ends_has k h f).1, f⟩, fun i c a h f => (ends_has k h f).2⟩
  · obtain ⟨ds', h1, h2⟩ := ends_own k h
    exact ⟨ds', h1⟩
  · rcases ends_ok k h with rfl | ⟨d, rfl⟩ | h
    · exact trivial
    · exact trivial
    · exact o i c h
theorem own_app {cs : List Cell} {n : Nat} {i : Nat} {c : Cell} (h : (cs ++ List.replicate n Cell.any)[i]? = some c) : c = .any ∨ cs[i]? = some c := by
  by_cases hi : i < cs.length
  · rw [List.getElem?_append_left hi] at h
    exact .inr h
  · rw [List.getElem?_append_right (Nat.le_of_not_lt hi), List.getElem?_replicate] at h
    split at h <;> cases h
    exact .inl rfl
theorem has_app {cs : List Cell} {n : Nat} {i : Nat} {c : Cell} {a : Addr} (h : (cs ++ List.replicate n Cell.any)[i]? = some c) (f : Has c a) : cs[i]? = some c := by
  rcases own_app h with rfl | h
  · exact f.elim
  · exact h
theorem isOwn_app {cs : List Cell} {n : Nat} {p : Addr} (h : IsOwn (cs ++ List.replicate n Cell.any) p) : IsOwn cs p := by
  obtain ⟨i, c, e, f⟩ := h
  exact ⟨i, c, has_app e f, f⟩
theorem app_isOwn {cs : List Cell} {n : Nat} {p : Addr} (h : IsOwn cs p) : IsOwn (cs ++ List.replicate n Cell.any) p := by
  obtain ⟨i, c, e, f⟩ := h
  exact ⟨i, c, by rw [List.getElem?_append_left (List.getElem?_eq_some_iff.mp e).1]; exact e, f⟩
theorem OwnOk.app {F H : Hp} {cs : List Cell} {n : Nat} (o : OwnOk K F H cs) : OwnOk K F H (cs ++ List.replicate n Cell.any) := fun i c h => by
  rcases own_app h with rfl | h
  · exact trivial
  · exact o i c h
theorem InjOk.app {cs : List Cell} {n : Nat} (o : InjOk cs) : InjOk (cs ++ List.replicate n Cell.any) := fun i j c d a h1 h2 f1 f2 => o i j c d a (has_app h1 f1) (has_app h2 f2) f1 f2
theorem Grow.app {cs : List Cell} {n : Nat} {H : Hp} {τ : List Cell} (g : Grow (cs ++ List.replicate n Cell.any) H τ) : Grow cs H τ := fun a h => (g a h).imp isOwn_app id
theorem Ext.app {cs : List Cell} {n : Nat} {F H F' H' : Hp} (x : Ext (cs ++ List.replicate n Cell.any) F H F' H') : Ext cs F H F' H' := by
  refine ⟨x.f, fun a o h => ?_, fun a o h z nt => x.keep a o h (fun q => z (isOwn_app q)) nt, x.there, x.tabs⟩
  rcases x.new a o h with z | z | z
  · exact .inl z
  · exact .inr (.inl z)
  · exact .inr (.inr (isOwn_app z))
end
/-- a def, by its body -/
theorem def_ok {P : Program} {w : World} {K : PySem.W.Frag} {mg : Str → Option Value} {base : Heap} {x qual : Str} {st : Stmt} {f : Addr} {fd : FuncData} {N ps : List Str} {k : Nat} {fs : FS} {wb : SW} (Fn : Fun K x qual st f fd) (S : FnScope N ps (defScope st))
    (hw : ∀ cs q e, cs.length = ps.length → fs cs q e → wb { nx := fun τ => Keeps cs τ ∧ q .non (ends cs τ), rt := fun d τ => Keeps cs τ ∧ q d (ends cs τ), rf := fun _ _ => False, bk := fun _ => False, ct := fun _ => False, ex := fun x τ => Keeps cs τ ∧ e x (ends cs τ) } (cs ++ List.replicate (N.length - ps.length) .any)) 
    (hb : ∀ (cdv : Value) (A : Around) (outer : List Env) (s : Shared) (H : Hp) (E : XK), Room k (A.deeper (envOfC qual (defScope st) s.heap.objs.size f cdv)) → Takes (cxOf (L2.CX P w) P w K mg base N qual (defScope st) f cdv A outer s H E) (fun cls d _ H => E cls d H) →
      ∃ t, PSs (cxOf (L2.CX P w) P w K mg base N qual (defScope st) f cdv A outer s H E) (defBody st) t ∧ DS K (fun cls d _ H => E cls d H) t wb) :
    FnOk P w K mg base (L2.CX P w) (k + 1) f fd ps (spOf K ps.length fs) := by
  refine Fn.okX S (fun vs H Q E h => h.1) (fun cdv A outer s H vs Q E hr h => ?_)
  obtain ⟨t, h1, h2⟩ := hb cdv A outer s H E hr (takes_of rfl rfl rfl rfl)
  refine ⟨t, h1, ?_⟩
  obtain ⟨hl, F, cs, q, e, S0, hf, kq, ke⟩ := h
  have lcs : cs.length = ps.length := by rw [← S0.len, List.length_map]; exact hl
  have S1 : SOk K F H (L2.start N vs) (cs ++ List.replicate (N.length - ps.length) .any) := by
    unfold L2.start
    rw [hl]
    refine ⟨S0.tabs, S0.sub, by simp [lcs, hl], fun i v c e1 e2 => ?_, S0.own.app, S0.inj.app⟩
    by_cases hi : i < cs.length
    · rw [List.getElem?_append_left hi] at e2
      rw [List.getElem?_append_left (by rw [List.length_map, hl, ← lcs]; exact hi)] at e1
      exact S0.slot i v c e1 e2
    · rw [List.getElem?_append_right (Nat.le_of_not_lt hi), List.getElem?_replicate] at e2
      split at e2
      · cases e2; exact trivial
      · cases e2
  refine h2.run _ H _ F _ _ S1 (hw cs q e lcs hf) ⟨fun σ' τ' F' H' u ⟨k, hq⟩ => ?_, fun _ _ _ _ _ z => z, fun _ _ _ _ _ z => z, fun v d τ' F' H' u r ⟨k, hq⟩ => ?_, fun σ' x cls dx τ' F' H' u r ⟨k, hq⟩ => ?_, ?_, fun _ _ _ _ _ _ _ _ z => z.elim⟩
  · exact kq .non .non _ F' H' u.ext.app u.ok.sub (cs_ok k u.ok.own u.ok.inj u.grow.app) .non hq
  · exact kq v d _ F' H' u.ext.app u.sub (cs_ok k u.own u.inj u.grow.app) r hq
  · exact ke x cls dx _ F' H' u.ext.app u.ok.sub (cs_ok k u.ok.own u.ok.inj u.grow.app) r hq
  · exact fun _ _ _ _ _ _ _ _ z => False.elim z
/-! .. one that hands back a new list, which nobody else knows -/
abbrev FSF := List Cell → (Cont → List Cell → Prop) → (Xn → List Cell → Prop) → Prop
def spFr (K : PySem.W.Frag) (n : Nat) (fs : FSF) : Sp := fun vs H Q E => vs.length = n ∧ ∃ F cs q e, SOk K F H (vs.map some) cs ∧ fs cs q e ∧
  (∀ p k cs' F' H', Ext cs F H F' H' → Same F' H' → CsOk K H F' H' cs cs' → CellOk K F' H' (.own p k) → (∀ a, Has (.own p k) a → Fr H a ∧ ¬ IsOwn cs' a) → q k cs' → Q (.ref p) H') ∧
  (∀ x cls dx cs' F' H', Ext cs F H F' H' → Same F' H' → CsOk K H F' H' cs cs' → XRep K F' H' cls dx x → e x cs' → E cls dx H')
theorem s_ok {K : PySem.W.Frag} {F H : Hp} {vs : List V} {cs : List Cell} {N ps : List Str} (S0 : SOk K F H (vs.map some) cs) (hl : vs.length = ps.length) : cs.length = ps.length ∧ SOk K F H (L2.start N vs) (cs ++ List.replicate (N.length - ps.length) .any) := by
  have lcs : cs.length = ps.length := by rw [← S0.len, List.length_map]; exact hl
  refine ⟨lcs, ?_⟩
  unfold L2.start
  rw [hl]
  refine ⟨S0.tabs, S0.sub, by simp [lcs, hl], fun i v c e1 e2 => ?_, S0.own.app, S0.inj.app⟩
  by_cases hi : i < cs.length
  · rw [List.getElem?_append_left hi] at e2
    rw [List.getElem?_append_left (by rw [List.length_map, hl, ← lcs]; exact hi)] at e1
    exact S0.slot i v c e1 e2
  · rw [List.getElem?_append_right (Nat.le_of_not_lt hi), List.getElem?_replicate] at e2
    split at e2
    · cases e2; exact trivial
    · cases e2
theorem def_okFr {P : Program} {w : World} {K : PySem.W.Frag} {mg : Str → Option Value} {base : Heap} {x qual : Str} {st : Stmt} {f : Addr} {fd : FuncData} {N ps : List Str} {k : Nat} {fs : FSF} {wb : SW} (Fn : Fun K x qual st f fd) (S : FnScope N ps (defScope st))
    (hw : ∀ cs q e, cs.length = ps.length → fs cs q e → wb { nx := fun _ => False, rt := fun _ _ => False, rf := fun ds τ => Keeps cs τ ∧ q ds (ends cs τ), bk := fun _ => False, ct := fun _ => False, ex := fun x τ => Keeps cs τ ∧ e x (ends cs τ) } (cs ++ List.replicate (N.length - ps.length) .any))
    (hb : ∀ (cdv : Value) (A : Around) (outer : List Env) (s : Shared) (H : Hp) (E : XK), Room k (A.deeper (envOfC qual (defScope st) s.heap.objs.size f cdv)) → Takes (cxOf (L2.CX P w) P w K mg base N qual (defScope st) f cdv A outer s H E) (fun cls d _ H => E cls d H) →
      ∃ t, PSs (cxOf (L2.CX P w) P w K mg base N qual (defScope st) f cdv A outer s H E) (defBody st) t ∧ DS K (fun cls d _ H => E cls d H) t wb) :
    FnOk P w K mg base (L2.CX P w) (k + 1) f fd ps (spFr K ps.length fs) := by
  refine Fn.okX S (fun vs H Q E h => h.1) (fun cdv A outer s H vs Q E hr h => ?_)
  obtain ⟨t, h1, h2⟩ := hb cdv A outer s H E hr (takes_of rfl rfl rfl rfl)
  refine ⟨t, h1, ?_⟩
  obtain ⟨hl, F, cs, q, e, S0, hf, kq, ke⟩ := h
  obtain ⟨lcs, S1⟩ := s_ok (N := N) S0 hl
  refine h2.run _ H _ F _ _ S1 (hw cs q e lcs hf) ⟨fun _ _ _ _ _ z => z.elim, fun _ _ _ _ _ z => z, fun _ _ _ _ _ z => z, fun _ _ _ _ _ _ _ z => z.elim, fun σ' x cls dx τ' F' H' u r ⟨k, hq⟩ => ?_, fun p c τ' F' H' u co n ⟨k, hq⟩ => ?_, fun _ _ _ _ _ _ _ _ z => z.elim⟩
  · exact ke x cls dx _ F' H' u.ext.app u.ok.sub (cs_ok k u.ok.own u.ok.inj u.grow.app) r hq
  · exact kq p c _ F' H' u.ext.app u.sub (cs_ok k u.own u.inj u.grow.app) co (fun a f => ⟨(n a f).1, fun ⟨i, d, e, g⟩ => (n a f).2 ⟨i, d, (ends_has k e g).1, g⟩⟩) hq
/-- a def that hands back an own list that it made, kept in a variable meanwhile; no parameter of it is own -/
theorem def_okG {P : Program} {w : World} {K : PySem.W.Frag} {mg : Str → Option Value} {base : Heap} {x qual : Str} {st : Stmt} {f : Addr} {fd : FuncData} {N ps : List Str} {k : Nat} {fs : FSF} {wb : SW} (Fn : Fun K x qual st f fd) (S : FnScope N ps (defScope st))
    (hw : ∀ cs q e, cs.length = ps.length → fs cs q e → (∀ (i : Nat) (p : Addr) (k : Cont), cs[i]? ≠ some (.own p k)) ∧ wb { nx := fun _ => False, rt := fun _ _ => False, rf := fun ds τ => Keeps cs τ ∧ q ds (ends cs τ), bk := fun _ => False, ct := fun _ => False, ex := fun x τ => Keeps cs τ ∧ e x (ends cs τ), rg := fun ds τ => Keeps cs τ ∧ q ds (ends cs τ) } (cs ++ List.replicate (N.length - ps.length) .any))
    (hb : ∀ (cdv : Value) (A : Around) (outer : List Env) (s : Shared) (H : Hp) (E : XK), Room k (A.deeper (envOfC qual (defScope st) s.heap.objs.size f cdv)) → Takes (cxOf (L2.CX P w) P w K mg base N qual (defScope st) f cdv A outer s H E) (fun cls d _ H => E cls d H) →
      ∃ t, PSs (cxOf (L2.CX P w) P w K mg base N qual (defScope st) f cdv A outer s H E) (defBody st) t ∧ DS K (fun cls d _ H => E cls d H) t wb) :
    FnOk P w K mg base (L2.CX P w) (k + 1) f fd ps (spFr K ps.length fs) := by
  refine Fn.okX S (fun vs H Q E h => h.1) (fun cdv A outer s H vs Q E hr h => ?_)
  obtain ⟨t, h1, h2⟩ := hb cdv A outer s H E hr (takes_of rfl rfl rfl rfl)
  refine ⟨t, h1, ?_⟩
  obtain ⟨hl, F, cs, q, e, S0, hf, kq, ke⟩ := h
  obtain ⟨lcs, S1⟩ := s_ok (N := N) S0 hl
  obtain ⟨no, hw⟩ := hw cs q e lcs hf
  have nown : ∀ a, ¬ IsOwn (cs ++ List.replicate (N.length - ps.length) .any) a := fun a ⟨i, c, e1, g⟩ => by
    by_cases hi : i < cs.length
    · rw [List.getElem?_append_left hi] at e1
      cases c with
      | own p k => exact no i p k e1
      | _ => exact g
    · rw [List.getElem?_append_right (Nat.le_of_not_lt hi), List.getElem?_replicate] at e1
      split at e1
      · cases e1; exact g
      · cases e1
  refine h2.run _ H _ F _ _ S1 hw ⟨fun _ _ _ _ _ z => z.elim, fun _ _ _ _ _ z => z, fun _ _ _ _ _ z => z, fun _ _ _ _ _ _ _ z => z.elim, fun σ' x cls dx τ' F' H' u r ⟨k, hq⟩ => ?_, fun p c τ' F' H' u co n ⟨k, hq⟩ => ?_, fun p c τ' F' H' u co n ⟨k, hq⟩ => ?_⟩
  · exact ke x cls dx _ F' H' u.ext.app u.ok.sub (cs_ok k u.ok.own u.ok.inj u.grow.app) r hq
  · exact kq p c _ F' H' u.ext.app u.sub (cs_ok k u.own u.inj u.grow.app) co (fun a f => ⟨(n a f).1, fun ⟨i, d, e, g⟩ => (n a f).2 ⟨i, d, (ends_has k e g).1, g⟩⟩) hq
  · exact kq p c _ F' H' u.ext.app u.sub (cs_ok k u.own u.inj u.grow.app) co (fun a f => ⟨(n a f).1.elim id fun z => (nown a z).elim, fun ⟨i, d, e, g⟩ => (n a f).2 ⟨i, d, (ends_has k e g).1, g⟩⟩) hq
section
variable {K : PySem.W.Frag} {W : WX}
/-! ### a call -/
inductive Arg where
  | d (d : D) | o (j : Nat)
def slots : List Arg → List Nat
  | [] => []
  | .d _ :: as => slots as
  | .o j :: as => j :: slots as
def cellsOf (τ : List Cell) : List Arg → List Cell
  | [] => []
  | .d d :: as => .dat d :: cellsOf τ as
  | .o j :: as => τ.getD j .any :: cellsOf τ as
def OwnArgs (τ : List Cell) : List Arg → Prop
  | [] => True
  | .d d :: as => OwnArgs τ as
  | .o j :: as => (∃ p es, τ[j]? = some (Cell.own p es)) ∧ OwnArgs τ as
def putBack (τ : List Cell) : List Arg → List Cell → List Cell
  | .o j :: as, c :: cs => putBack (τ.set j c) as cs
  | .d _ :: as, _ :: cs => putBack τ as cs
  | _, _ => τ
inductive ArgsOk (K : PySem.W.Frag) (F : Hp) (σ : L2.St) : List V → List Arg → Prop
  | nil : ArgsOk K F σ [] []
  | d {v : V} {vs : List V} {d : D} {as : List Arg} : Rep K F v d → ArgsOk K F σ vs as → ArgsOk K F σ (v :: vs) (.d d :: as)
  | o {v : V} {vs : List V} {j : Nat} {as : List Arg} : σ[j]? = some (some v) → ArgsOk K F σ vs as → ArgsOk K F σ (v :: vs) (.o j :: as)
theorem ArgsOk.mono {F F' : Hp} {σ : L2.St} (s : Same F F') : ∀ {vs : List V} {as : List Arg}, ArgsOk K F σ vs as → ArgsOk K F' σ vs as
  | _, _, .nil => .nil
  | _, _, .d r t => .d (r.mono s) (ArgsOk.mono s t)
  | _, _, .o e t => .o e (ArgsOk.mono s t)
theorem ArgsOk.length {F : Hp} {σ : L2.St} : ∀ {vs : List V} {as : List Arg}, ArgsOk K F σ vs as → vs.length = as.length
  | _, _, .nil => rfl
  | _, _, .d r t => by rw [List.length_cons, List.length_cons, ArgsOk.length t]
  | _, _, .o e t => by rw [List.length_cons, List.length_cons, ArgsOk.length t]
theorem cellsOf_length (τ : List Cell) : ∀ as, (cellsOf τ as).length = as.length
  | [] => rfl
  | .d d :: as => by unfold cellsOf; rw [List.length_cons, List.length_cons, cellsOf_length τ as]
  | .o d :: as => by unfold cellsOf; rw [List.length_cons, List.length_cons, cellsOf_length τ as]
theorem cellsOf_any {τ : List Cell} : ∀ {as : List Arg} {k : Nat} {c : Cell}, (cellsOf τ as)[k]? = some c → c = .any ∨ (∃ d, c = .dat d) ∨ ∃ j, as[k]? = some (.o j) ∧ τ[j]? = some c
  | [], k, c, h => by simp [cellsOf] at h
  | .d d :: as, 0, c, h => .inr (.inl ⟨d, by simpa [cellsOf] using h.symm⟩)
  | .o j :: as, 0, c, h => by
    have h : τ.getD j .any = c := by simpa [cellsOf] using h
    rw [List.getD_eq_getElem?_getD] at h
    cases e : τ[j]? with
    | none => rw [e] at h; exact .inl h.symm
    | some c' => rw [e] at h; exact .inr (.inr ⟨j, rfl, e.trans (congrArg some h)⟩)
  | .d d :: as, k + 1, c, h => by
    have := cellsOf_any (as := as) (k := k) (c := c) (by simpa [cellsOf] using h)
    simpa using this
  | .o d :: as, k + 1, c, h => by
    have := cellsOf_any (as := as) (k := k) (c := c) (by simpa [cellsOf] using h)
    simpa using this
theorem cellsOf_has {τ : List Cell} {as : List Arg} {k : Nat} {c : Cell} {a : Addr} (h : (cellsOf τ as)[k]? = some c) (f : Has c a) : ∃ j, as[k]? = some (.o j) ∧ τ[j]? = some c := by
  rcases cellsOf_any h with rfl | ⟨d, rfl⟩ | h
  · exact f.elim
  · exact f.elim
  · exact h
theorem mem_slots : ∀ {as : List Arg} {k j : Nat}, as[k]? = some (.o j) → j ∈ slots as
  | [], k, j, h => by simp at h
  | .d d :: as, 0, j, h => by cases h
  | .o i :: as, 0, j, h => by cases h; exact List.mem_cons_self ..
  | .d d :: as, k + 1, j, h => mem_slots (as := as) (k := k) (by simpa using h)
  | .o i :: as, k + 1, j, h => List.mem_cons_of_mem _ (mem_slots (as := as) (k := k) (by simpa using h))
theorem cellsOf_isOwn {τ : List Cell} {as : List Arg} {a : Addr} (h : IsOwn (cellsOf τ as) a) : ∃ j c, j ∈ slots as ∧ τ[j]? = some c ∧ Has c a := by
  obtain ⟨k, c, e, f⟩ := h
  obtain ⟨j, e1, e2⟩ := cellsOf_has e f
  exact ⟨j, c, mem_slots e1, e2, f⟩
theorem slots_mem : ∀ {as : List Arg} {j : Nat}, j ∈ slots as → ∃ k : Nat, as[k]? = some (Arg.o j)
  | [], j, h => by simp [slots] at h
  | .d d :: as, j, h => by
    obtain ⟨k, e⟩ := slots_mem (as := as) h
    exact ⟨k + 1, by simpa using e⟩
  | .o i :: as, j, h => by
    rcases List.mem_cons.mp h with rfl | h
    · exact ⟨0, rfl⟩
    · obtain ⟨k, e⟩ := slots_mem (as := as) h
      exact ⟨k + 1, by simpa using e⟩
theorem slot_inj : ∀ {as : List Arg} {k l j : Nat}, (slots as).Nodup → as[k]? = some (.o j) → as[l]? = some (.o j) → k = l
  | [], k, l, j, _, h, _ => by simp at h
  | .d d :: as, 0, l, j, _, h, _ => by cases h
  | .d d :: as, k, 0, j, _, _, h => by cases h
  | .d d :: as, k + 1, l + 1, j, nd, h, h' => congrArg (· + 1) (slot_inj (as := as) (k := k) (l := l) nd (by simpa using h) (by simpa using h'))
  | .o i :: as, 0, 0, j, _, _, _ => rfl
  | .o i :: as, 0, l + 1, j, nd, h, h' => by
    cases h
    exact absurd (mem_slots (as := as) (k := l) (by simpa using h')) (List.nodup_cons.mp nd).1
  | .o i :: as, k + 1, 0, j, nd, h, h' => by
    cases h'
    exact absurd (mem_slots (as := as) (k := k) (by simpa using h)) (List.nodup_cons.mp nd).1
  | .o i :: as, k + 1, l + 1, j, nd, h, h' => congrArg (· + 1) (slot_inj (as := as) (k := k) (l := l) (List.nodup_cons.mp nd).2 (by simpa using h) (by simpa using h'))
theorem putBack_out : ∀ {as : List Arg} {cs τ : List Cell} {i : Nat}, i ∉ slots as → (putBack τ as cs)[i]? = τ[i]?
  | [], cs, τ, i, _ => by cases cs <;> rfl
  | .d d :: as, [], τ, i, h => rfl
  | .o d :: as, [], τ, i, h => rfl
  | .d d :: as, c :: cs, τ, i, h => putBack_out (as := as) h
  | .o j :: as, c :: cs, τ, i, h => by
    have h' : i ≠ j ∧ i ∉ slots as := by simpa [slots] using h
    show (putBack (τ.set j c) as cs)[i]? = _
    rw [putBack_out (as := as) h'.2, List.getElem?_set_ne (Ne.symm h'.1)]
theorem putBack_length : ∀ {as : List Arg} {cs τ : List Cell}, (putBack τ as cs).length = τ.length
  | [], cs, τ => by cases cs <;> rfl
  | .d d :: as, [], τ => rfl
  | .o d :: as, [], τ => rfl
  | .d d :: as, c :: cs, τ => putBack_length (as := as)
  | .o j :: as, c :: cs, τ => by
    show (putBack (τ.set j c) as cs).length = _
    rw [putBack_length (as := as), List.length_set]
theorem putBack_in : ∀ {as : List Arg} {cs τ : List Cell} {i k : Nat} {c : Cell}, (slots as).Nodup → i < τ.length → as[k]? = some (.o i) → cs[k]? = some c → (putBack τ as cs)[i]? = some c
  | [], cs, τ, i, k, c, _, _, h, _ => by simp at h
  | .d d :: as, [], τ, i, k, c, _, _, h, h' => by simp at h'
  | .o d :: as, [], τ, i, k, c, _, _, h, h' => by simp at h'
  | .d d :: as, b :: cs, τ, i, 0, c, _, _, h, _ => by cases h
  | .d d :: as, b :: cs, τ, i, k + 1, c, nd, hi, h, h' => putBack_in (as := as) (k := k) nd hi (by simpa using h) (by simpa using h')
  | .o j :: as, b :: cs, τ, i, 0, c, nd, hi, h, h' => by
    cases h
    cases h'
    show (putBack (τ.set _ _) as cs)[_]? = _
    rw [putBack_out (List.nodup_cons.mp nd).1, List.getElem?_set_self hi]
  | .o j :: as, b :: cs, τ, i, k + 1, c, nd, hi, h, h' => putBack_in (as := as) (k := k) (List.nodup_cons.mp nd).2 (by rw [List.length_set]; exact hi) (by simpa using h) (by simpa using h')
theorem ownArgs_at {τ : List Cell} : ∀ {as : List Arg} {k j : Nat}, OwnArgs τ as → as[k]? = some (.o j) → ∃ p es, τ[j]? = some (Cell.own p es)
  | [], k, j, _, h => by simp at h
  | .d d :: as, 0, j, _, h => by cases h
  | .o i :: as, 0, j, h, e => by cases e; exact h.1
  | .d d :: as, k + 1, j, h, e => ownArgs_at (as := as) (k := k) h (by simpa using e)
  | .o i :: as, k + 1, j, h, e => ownArgs_at (as := as) (k := k) h.2 (by simpa using e)
theorem cellsOf_at {τ : List Cell} : ∀ {as : List Arg} {k j : Nat} {p : Addr} {es : Cont}, as[k]? = some (.o j) → τ[j]? = some (Cell.own p es) → (cellsOf τ as)[k]? = some (.own p es)
  | [], k, j, p, es, h, _ => by simp at h
  | .d d :: as, 0, j, p, es, h, _ => by cases h
  | .o i :: as, 0, j, p, es, h, e => by
    cases h
    show some (τ.getD _ .any) = _
    rw [List.getD_eq_getElem?_getD, e]
    rfl
  | .d d :: as, k + 1, j, p, es, h, e => by
    show (cellsOf τ as)[k]? = _
    exact cellsOf_at (as := as) (by simpa using h) e
  | .o i :: as, k + 1, j, p, es, h, e => by
    show (cellsOf τ as)[k]? = _
    exact cellsOf_at (as := as) (by simpa using h) e
/-- the cells of the arguments describe the values -/
theorem args_slot {F H : Hp} {σ : L2.St} {τ : List Cell} (S : SOk K F H σ τ) : ∀ {vs : List V} {as : List Arg}, ArgsOk K F σ vs as → ∀ (i : Nat) (s : Option V) (c : Cell), (vs.map some)[i]? = some s → (cellsOf τ as)[i]? = some c → SlotOk K F s c
  | _, _, .nil, i, s, c, h, _ => by simp at h
  | _, _, .d (v := v) r t, 0, s, c, h, h' => by
    cases h
    cases h'
    exact ⟨v, rfl, r⟩
  | _, _, .o (v := v) (j := j) e t, 0, s, c, h, h' => by
    cases h
    have h' : τ.getD j .any = c := by simpa [cellsOf] using h'
    rw [List.getD_eq_getElem?_getD] at h'
    cases q : τ[j]? with
    | none => rw [q] at h'; cases h'; exact trivial
    | some c' =>
      rw [q] at h'
      have h' : c' = c := h'
      subst h'
      exact S.slot j _ _ e q
  | _, _, .d r t, i + 1, s, c, h, h' => args_slot S t i s c (by simpa using h) (by simpa [cellsOf] using h')
  | _, _, .o e t, i + 1, s, c, h, h' => args_slot S t i s c (by simpa using h) (by simpa [cellsOf] using h')
abbrev AcW := List Cell → (List Arg → List Cell → Prop) → (Xn → List Cell → Prop) → Prop
structure DAc (K : PySem.W.Frag) (W : WX) (t : TA) (w : AcW) : Prop where
  run : ∀ σ H τ F Q q e, SOk K F H σ τ → w τ q e → (∀ vs as τ' F' H', To K F H σ τ F' H' τ' → ArgsOk K F' σ vs as → q as τ' → Q vs H') → XTo K W F H σ τ e → t σ H Q
def wcNil : AcW := fun τ q _ => q [] τ
def wcCons (we : EW) (wa : AcW) : AcW := fun τ q e => we τ (fun d τ1 => wa τ1 (fun as τ2 => q (.d d :: as) τ2) e) e
def wcOwn (j : Nat) (wa : AcW) : AcW := fun τ q e => (∃ p es, τ[j]? = some (Cell.own p es)) ∧ wa τ (fun as τ2 => q (.o j :: as) τ2) e
theorem dac_nil : DAc K W tNil wcNil := ⟨fun σ H τ F Q q e S hq k _ => k [] [] τ F H (.refl S) .nil hq⟩
theorem dac_cons {t : TE} {u : TA} {w : EW} {v : AcW} (h : DE K W t w) (g : DAc K W u v) : DAc K W (tCons t u) (wcCons w v) := by
  refine ⟨fun σ H τ F Q q e S hw k x => h.run σ H τ F _ _ e S hw (fun z d τ' F' H' t' r h1 => ?_) x⟩
  refine g.run σ H' τ' F' _ _ e t'.ok h1 (fun zs ds τ2 F2 H2 t2 r2 hq => ?_) (x.of t')
  exact k (z :: zs) (.d d :: ds) τ2 F2 H2 (t'.trans t2) (.d (r.mono t2.ext.f) r2) hq
theorem dac_own {j : Nat} {u : TA} {v : AcW} (g : DAc K W u v) : DAc K W (tCons (tVar j) u) (wcOwn j v) := by
  refine ⟨fun σ H τ F Q q e S ⟨⟨p, es, e0⟩, hw⟩ k x => ?_⟩
  obtain ⟨s0, _⟩ := own_at S e0
  refine ⟨.ref p, s0, ?_⟩
  refine g.run σ H τ F _ _ e S hw (fun zs ds τ2 F2 H2 t2 r2 hq => ?_) x
  exact k (.ref p :: zs) (.o j :: ds) τ2 F2 H2 t2 (.o s0 r2) hq
def wCall (n : Nat) (fs : FS) (wa : AcW) : EW := fun τ q e => wa τ (fun as τ' => as.length = n ∧ (slots as).Nodup ∧ OwnArgs τ' as ∧ fs (cellsOf τ' as) (fun d cs' => q d (putBack τ' as cs')) (fun x cs' => e x (putBack τ' as cs'))) e
theorem putBack_alt {H F' H' : Hp} {τ cs' : List Cell} {as : List Arg} (nd : (slots as).Nodup) (oa : OwnArgs τ as) (c : CsOk K H F' H' (cellsOf τ as) cs') (i : Nat) :
    (i ∉ slots as ∧ (putBack τ as cs')[i]? = τ[i]?) ∨ (∃ (k : Nat) (p : Addr) (ds ds' : Cont), as[k]? = some (Arg.o i) ∧ τ[i]? = some (Cell.own p ds) ∧ cs'[k]? = some (Cell.own p ds') ∧ (putBack τ as cs')[i]? = some (Cell.own p ds')) := by
  by_cases h : i ∈ slots as
  · obtain ⟨k, e⟩ := slots_mem h
    obtain ⟨p, es, e1⟩ := ownArgs_at oa e
    obtain ⟨ds', e2⟩ := c.same k p es (cellsOf_at e e1)
    exact .inr ⟨k, p, es, ds', e, e1, e2, putBack_in nd (List.getElem?_eq_some_iff.mp e1).1 e e2⟩
  · exact .inl ⟨h, putBack_out h⟩
theorem putBack_isOwn {H F' H' : Hp} {τ cs' : List Cell} {as : List Arg} (nd : (slots as).Nodup) (oa : OwnArgs τ as) (c : CsOk K H F' H' (cellsOf τ as) cs') {a : Addr} (h : IsOwn (putBack τ as cs') a) :
    (∃ i d, i ∉ slots as ∧ τ[i]? = some d ∧ Has d a) ∨ IsOwn cs' a := by
  obtain ⟨i, d, e, f⟩ := h
  rcases putBack_alt nd oa c i with ⟨n, z⟩ | ⟨k, p, ds, ds', z1, z2, z3, z4⟩
  · exact .inl ⟨i, d, n, by rw [← z]; exact e, f⟩
  · rw [e] at z4
    cases z4
    exact .inr ⟨k, _, z3, f⟩
theorem call_to {F H F' H' F0 H0 : Hp} {σ : L2.St} {τ τ0 cs' : List Cell} {as : List Arg} (t : To K F0 H0 σ τ0 F H τ) (nd : (slots as).Nodup) (oa : OwnArgs τ as) (x : Ext (cellsOf τ as) F H F' H') (sub : Same F' H') (c : CsOk K H F' H' (cellsOf τ as) cs') :
    To K F0 H0 σ τ0 F' H' (putBack τ as cs') := by
  have alt := putBack_alt nd oa c
  have cown : ∀ {p : Addr}, IsOwn (cellsOf τ as) p → IsOwn τ p := fun {p} h => by
    obtain ⟨j, d, _, e, f⟩ := cellsOf_isOwn h
    exact ⟨j, d, e, f⟩
  -- what a cell that was not handed in has is not the call's
  have apart : ∀ {i : Nat} {d : Cell} {a : Addr}, i ∉ slots as → τ[i]? = some d → Has d a → ¬ IsOwn (cellsOf τ as) a := fun {i d a} n e f h => by
    obtain ⟨j, d', m, e', f'⟩ := cellsOf_isOwn h
    rw [t.ok.inj i j d d' a e e' f f'] at n
    exact n m
  have xt : Ext τ F H F' H' := by
    refine ⟨x.f, fun a o h => ?_, fun a o h z nt => x.keep a o h (fun q => z (cown q)) nt, x.there, x.tabs⟩
    rcases x.new a o h with z | z | z
    · exact .inl z
    · exact .inr (.inl z)
    · exact .inr (.inr (cown z))
  have gr : Grow τ H (putBack τ as cs') := fun a h => by
    rcases putBack_isOwn nd oa c h with ⟨i, d, _, e, f⟩ | h
    · exact .inl ⟨i, d, e, f⟩
    · exact (c.grow a h).imp cown id
  refine To.trans t (σ' := σ) ⟨xt, gr, ⟨xt.tabs t.ok.tabs, sub, by rw [putBack_length]; exact t.ok.len, fun i s cc h1 h2 => ?_, fun i d h => ?_, fun i j d e a h1 h2 f1 f2 => ?_⟩⟩
  · rcases alt i with ⟨_, e⟩ | ⟨k, q, ds, ds2, _, e1, _, e2⟩
    · rw [e] at h2
      exact (t.ok.slot i s cc h1 h2).mono x.f
    · rw [h2] at e2
      cases e2
      exact (show s = some (.ref q) from t.ok.slot i s _ h1 e1)
  · rcases alt i with ⟨hn, e⟩ | ⟨k, q, ds1, ds2, _, e1, e2, e3⟩
    · rw [e] at h
      refine (t.ok.own i d h).move x.f fun a f => ?_
      obtain ⟨g1, u, g2, g3⟩ := (t.ok.own i d h).has f
      have na := apart hn h f
      refine ⟨?_, fun o ho nt => x.keep a o ho na nt⟩
      cases q : F' a with
      | none => rfl
      | some o =>
        rcases x.new a o q with z | z | z
        · rw [g1] at z; cases z
        · exact (z _ g2 g3).elim
        · exact absurd z na
    · rw [h] at e3
      cases e3
      exact c.own k _ e2
  · have cross : ∀ {i j : Nat} {d e : Cell}, i ∉ slots as → τ[i]? = some d → Has d a → ∀ k, cs'[k]? = some e → Has e a → False := fun {i j d e} n z f k z' f' => by
      rcases c.grow a ⟨k, e, z', f'⟩ with y | y
      · exact apart n z f y
      · obtain ⟨_, u, g2, g3⟩ := (t.ok.own i d z).has f
        exact y u g2 g3
    rcases alt i with ⟨n1, z1⟩ | ⟨k1, p1, ds1, ds1', y1, y2, y3, y4⟩
    · rw [z1] at h1
      rcases alt j with ⟨n2, z2⟩ | ⟨k2, p2, ds2, ds2', x1, x2, x3, x4⟩
      · rw [z2] at h2
        exact t.ok.inj i j d e a h1 h2 f1 f2
      · rw [h2] at x4
        cases x4
        exact (cross (j := j) n1 h1 f1 k2 x3 f2).elim
    · rw [h1] at y4
      cases y4
      rcases alt j with ⟨n2, z2⟩ | ⟨k2, p2, ds2, ds2', x1, x2, x3, x4⟩
      · rw [z2] at h2
        exact (cross (j := i) n2 h2 f2 k1 y3 f1).elim
      · rw [h2] at x4
        cases x4
        have := c.inj k1 k2 _ _ a y3 x3 f1 f2
        subst this
        rw [y1] at x1
        cases x1
        rfl
theorem pre_call {F H F0 H0 : Hp} {σ : L2.St} {τ τ0 : List Cell} {vs : List V} {as : List Arg} (t : To K F0 H0 σ τ0 F H τ) (a : ArgsOk K F σ vs as) (nd : (slots as).Nodup) : SOk K F H (vs.map some) (cellsOf τ as) := by
  refine ⟨t.ok.tabs, t.ok.sub, by rw [List.length_map, cellsOf_length, a.length], args_slot t.ok a, fun i c e0 => ?_, fun i j c d x e1 e2 f1 f2 => ?_⟩
  · rcases cellsOf_any e0 with rfl | ⟨d, rfl⟩ | ⟨j, _, e2⟩
    · exact trivial
    · exact trivial
    · exact t.ok.own j c e2
  · obtain ⟨k1, a1, b1⟩ := cellsOf_has e1 f1
    obtain ⟨k2, a2, b2⟩ := cellsOf_has e2 f2
    have ek := t.ok.inj k1 k2 c d x b1 b2 f1 f2
    subst ek
    exact slot_inj nd a1 a2
theorem de_call {n : Nat} {fs : FS} {t : TA} {w : AcW} (h : DAc K W t w) : DE K W (tCallS (spOf K n fs) (L2.WE W) t) (wCall n fs w) := by
  refine ⟨fun σ H τ F Q q e S hw k x => h.run σ H τ F _ _ e S hw (fun vs as τ' F' H' t' a ⟨hl, nd, oa, hf⟩ => ?_) x⟩
  exact ⟨by rw [a.length]; exact hl, F', cellsOf τ' as, _, _, pre_call t' a nd, hf, fun v d cs' F2 H2 x2 s2 c2 r2 hq => k v d _ F2 H2 (call_to t' nd oa x2 s2 c2) r2 hq, fun y cls dx cs' F2 H2 x2 s2 c2 r2 hq => x y cls dx _ F2 H2 (call_to t' nd oa x2 s2 c2) r2 hq⟩
/-- x = f(..), f hands back a new list: it becomes an own one -/
def wCallOwn (i n : Nat) (fs : FSF) (wa : AcW) : SW := fun E τ => wa τ (fun as τ' => as.length = n ∧ (slots as).Nodup ∧ OwnArgs τ' as ∧ fs (cellsOf τ' as) (fun k cs' => ∀ p, E.nx ((putBack τ' as cs').set i (.own p k))) (fun x cs' => E.ex x (putBack τ' as cs'))) E.ex
theorem ds_callOwn {i n : Nat} {fs : FSF} {t : TA} {w : AcW} (h : DAc K W t w) : DS K W (tAsg (tCallS (spFr K n fs) (L2.WE W) t) (gName i)) (wCallOwn i n fs w) := by
  refine ⟨fun σ H τ F Dn E S hw o => h.run σ H τ F _ _ E.ex S hw (fun vs as τ' F' H' t' a ⟨hl, nd, oa, hf⟩ => ?_) o.xto⟩
  refine ⟨by rw [a.length]; exact hl, F', cellsOf τ' as, _, _, pre_call t' a nd, hf, fun p k cs' F2 H2 x2 s2 c2 ck nk hq => ?_, fun y cls dx cs' F2 H2 x2 s2 c2 r2 hq => ?_⟩
  · have T := call_to t' nd oa x2 s2 c2
    have nO : ∀ b, Has (.own p k) b → ¬ IsOwn (putBack τ' as cs') b := fun b f z => by
      rcases putBack_isOwn nd oa c2 z with ⟨j, d, _, e, g⟩ | z
      · obtain ⟨_, u, g2, g3⟩ := (t'.ok.own j d e).has g
        exact (nk b f).1 u g2 g3
      · exact (nk b f).2 z
    exact o.nx _ _ F2 H2 ⟨T.ext, grow_set T fun b f => t'.back (nk b f).1, T.ok.setOwn ck nO⟩ (hq p)
  · exact o.ex σ y cls dx _ F2 H2 (call_to t' nd oa x2 s2 c2) r2 hq
end
end L3

/-! ## more operations -/
namespace L3
open PySem PySem.Spec PyProof.Rows L2
variable [TB : TabT]
section
variable {K : PySem.W.Frag} {W : WX}
theorem de_ty {n : String} : DE K W (tC (.ty n)) (wC (.ty n)) := de_c fun _ => .ty n
def wNeg (we : EW) : EW := fun τ q e => we τ (fun d τ' => ∃ i, d = .int i ∧ q (.int (-i)) τ') e
theorem de_neg {t : TE} {w : EW} (h : DE K W t w) : DE K W (tUn (rU fun i => .int (-i)) t) (wNeg w) := by
  refine ⟨fun σ H τ F Q q e S hw k x => h.run σ H τ F _ _ e S hw (fun v d τ' F' H' t' r ⟨i, e', hq⟩ => ?_) x⟩
  subst e'
  exact ⟨i, r.int_of, k _ _ τ' F' H' t' (.int _) hq⟩
/-- plain things, compared by their values -/
def scD : D → Option V
  | .non => some .non | .bl b => some (.bl b) | .int i => some (.int i) | .str x => some (.str x) | _ => none
theorem sc_of {F : Hp} {v u : V} {d : D} (r : Rep K F v d) (h : scD d = some u) : v = u := by
  cases r <;> cases h <;> rfl
def gEq : D → D → (D → Prop) → Prop := fun x y q => ∃ v u, scD x = some v ∧ scD y = some u ∧ scal v u = true ∧ q (.bl (decide (v = u)))
def gNe : D → D → (D → Prop) → Prop := fun x y q => ∃ v u, scD x = some v ∧ scD y = some u ∧ scal v u = true ∧ q (.bl (!decide (v = u)))
theorem o_eq : Op2 K rEq gEq := by
  rintro F H x y d1 d2 q Q s r1 r2 ⟨v, u, e1, e2, hs, hq⟩ k
  rw [sc_of r1 e1, sc_of r2 e2]
  exact ⟨hs, k _ _ F H (.refl _ _ _) s (.bl _) hq⟩
theorem o_ne : Op2 K rNe gNe := by
  rintro F H x y d1 d2 q Q s r1 r2 ⟨v, u, e1, e2, hs, hq⟩ k
  rw [sc_of r1 e1, sc_of r2 e2]
  exact ⟨hs, k _ _ F H (.refl _ _ _) s (.bl _) hq⟩
def isNonD : D → Bool | .non => true | _ => false
theorem non_iff {F : Hp} {v : V} {d : D} (r : Rep K F v d) : decide (v = .non) = isNonD d := by
  cases r <;> simp [isNonD]
def rIsN : R2 := fun x y H Q => y = .non ∧ Q (.bl (decide (x = .non))) H
def rNotN : R2 := fun x y H Q => y = .non ∧ Q (.bl (!decide (x = .non))) H
def gIsN : D → D → (D → Prop) → Prop := fun x y q => y = .non ∧ q (.bl (isNonD x))
def gNotN : D → D → (D → Prop) → Prop := fun x y q => y = .non ∧ q (.bl (!isNonD x))
theorem o_isN : Op2 K rIsN gIsN := by
  rintro F H x y d1 d2 q Q s r1 r2 ⟨rfl, hq⟩ k
  cases r2
  exact ⟨rfl, by rw [non_iff r1]; exact k _ _ F H (.refl _ _ _) s (.bl _) hq⟩
theorem o_notN : Op2 K rNotN gNotN := by
  rintro F H x y d1 d2 q Q s r1 r2 ⟨rfl, hq⟩ k
  cases r2
  exact ⟨rfl, by rw [non_iff r1]; exact k _ _ F H (.refl _ _ _) s (.bl _) hq⟩
mutual
def toPy : D → Option PyData
  | .non => some .none | .bl b => some (.bool b) | .int i => some (.int i) | .str x => some (.str x)
  | .tup ds => (toPys ds).map .tuple | .lst ds => (toPys ds).map .list | .fl ds => (toPys ds).map .list | _ => none
def toPys : List D → Option (List PyData)
  | [] => some []
  | d :: ds => (toPy d).bind fun p => (toPys ds).map fun ps => p :: ps
end
mutual
theorem dp_of {F : Hp} : ∀ {d : D} {v : V} {p : PyData}, Rep K F v d → toPy d = some p → Dp K F v p
  | .non, _, _, r, h => by cases r; cases h; exact .non
  | .bl b, _, _, r, h => by cases r; cases h; exact .bl b
  | .int b, _, _, r, h => by cases r; cases h; exact .int b
  | .str b, _, _, r, h => by cases r; cases h; exact .str b
  | .tup ds, _, p, r, h => by
    cases r with
    | tup hs r =>
      have h : (toPys ds).map PyData.tuple = some p := by rw [← h]; rfl
      cases e : toPys ds with
      | none => rw [e] at h; cases h
      | some ps => rw [e] at h; cases h; exact .tup hs (dps_of r e)
  | .lst ds, _, p, r, h => by
    cases r with
    | lst hs r =>
      have h : (toPys ds).map PyData.list = some p := by rw [← h]; rfl
      cases e : toPys ds with
      | none => rw [e] at h; cases h
      | some ps => rw [e] at h; cases h; exact .lst (.inl (.inl hs)) (dps_of r e)
  | .fl ds, _, p, r, h => by
    cases r with
    | fl hs r =>
      have h : (toPys ds).map PyData.list = some p := by rw [← h]; rfl
      cases e : toPys ds with
      | none => rw [e] at h; cases h
      | some ps => rw [e] at h; cases h; exact .lst hs (dps_of r e)
  | .ty n, _, _, r, h => by cases h
  | .oth n, _, _, r, h => by cases h
  | .ins c n, _, _, r, h => by cases h
  | .adr q, _, _, r, h => by cases h
  | .dc _, _, _, r, h => by cases h
  | .dtc _, _, _, r, h => by cases h
theorem dps_of {F : Hp} : ∀ {ds : List D} {vs : List V} {ps : List PyData}, Reps K F vs ds → toPys ds = some ps → DpAll K F vs ps
  | [], _, _, r, h => by cases r; cases h; exact .nil
  | d :: ds, _, ps, r, h => by
    cases r with
    | cons r1 r2 =>
      have h : ((toPy d).bind fun p => (toPys ds).map fun ps => p :: ps) = some ps := by rw [← h]; rfl
      cases e : toPy d with
      | none => rw [e] at h; cases h
      | some p =>
        rw [e] at h
        cases e2 : toPys ds with
        | none => rw [e2] at h; cases h
        | some qs => rw [e2] at h; cases h; exact .cons (dp_of r1 e) (dps_of r2 e2)
end
mutual
theorem Dp_mono {F F' : Hp} (s : Same F F') : ∀ {v : V} {p : PyData}, Dp K F v p → Dp K F' v p
  | _, _, .non => .non
  | _, _, .bl b => .bl b
  | _, _, .int i => .int i
  | _, _, .str x => .str x
  | _, _, .tup h r => .tup (SqT_mono s h) (DpAll_mono s r)
  | _, _, .lst h r => .lst (s.seq h) (DpAll_mono s r)
theorem DpAll_mono {F F' : Hp} (s : Same F F') : ∀ {vs : List V} {ps : List PyData}, DpAll K F vs ps → DpAll K F' vs ps
  | _, _, .nil => .nil
  | _, _, .cons h r => .cons (Dp_mono s h) (DpAll_mono s r)
end
/-- things of any depth, compared by their values -/
def gEqD : D → D → (D → Prop) → Prop := fun x y q => ∃ v u, toPy x = some v ∧ toPy y = some u ∧ SeqAt.shaped v = true ∧ SeqAt.shaped u = true ∧ q (.bl (PyData.eqv v u))
def gNeD : D → D → (D → Prop) → Prop := fun x y q => ∃ v u, toPy x = some v ∧ toPy y = some u ∧ SeqAt.shaped v = true ∧ SeqAt.shaped u = true ∧ q (.bl (!PyData.eqv v u))
theorem o_eqD : Op2 K (rEqD K) gEqD := by
  rintro F H x y d1 d2 q Q s r1 r2 ⟨v, u, e1, e2, h1, h2, hq⟩ k
  exact ⟨v, u, Dp_mono s (dp_of r1 e1), Dp_mono s (dp_of r2 e2), h1, h2, k _ _ F H (.refl _ _ _) s (.bl _) hq⟩
theorem o_neD : Op2 K (rNeD K) gNeD := by
  rintro F H x y d1 d2 q Q s r1 r2 ⟨v, u, e1, e2, h1, h2, hq⟩ k
  exact ⟨v, u, Dp_mono s (dp_of r1 e1), Dp_mono s (dp_of r2 e2), h1, h2, k _ _ F H (.refl _ _ _) s (.bl _) hq⟩
end
end L3

/-! ## names for the generated texts -/
namespace L3
open PySem PySem.Spec PyProof.Rows L2
variable [TB : TabT]
abbrev rAddI : R2 := rI0 fun i j => .int (i + j)
abbrev rSubI : R2 := rI0 fun i j => .int (i - j)
abbrev rLtI : R2 := rI0 fun i j => .bl (decide (i < j))
abbrev rLeI : R2 := rI0 fun i j => .bl (decide (i ≤ j))
abbrev rGtI : R2 := rI0 fun i j => .bl (decide (j < i))
abbrev rGeI : R2 := rI0 fun i j => .bl (decide (j ≤ i))
abbrev rNegI : V → Hp → VK → Prop := rU fun i => .int (-i)
def CMulA (i j : Int) : Prop := CMul i j ∨ CMulW i j
abbrev rMulA : R2 := rI CMulA fun i j => .int (i * j)
abbrev rDivW : R2 := rI CDivW fun i j => .int (i / j)
abbrev rModI : R2 := rI (fun _ j => 0 < j) fun i j => .int (i % j)
abbrev rPowI : R2 := rI CPow fun i j => .int (i ^ j.toNat)
theorem op_mulA {X : Cx} : OpR X (binaryOp .Mult) rMulA := opI fun _ _ _ _ _ _ _ hc q => mul_int q (hc.elim (fun z => z.ok) fun z => z.ok)
abbrev gAddI := g2I fun i j => .int (i + j)
abbrev gSubI := g2I fun i j => .int (i - j)
abbrev gLtI := g2I fun i j => .bl (decide (i < j))
abbrev gLeI := g2I fun i j => .bl (decide (i ≤ j))
abbrev gGtI := g2I fun i j => .bl (decide (j < i))
abbrev gGeI := g2I fun i j => .bl (decide (j ≤ i))
abbrev gMulA := g2IC CMulA fun i j => .int (i * j)
abbrev gDivW := g2IC CDivW fun i j => .int (i / j)
abbrev gModI := g2IC (fun _ j => 0 < j) fun i j => .int (i % j)
abbrev gPowI := g2IC CPow fun i j => .int (i ^ j.toNat)
/-- what is never reached -/
def wNever : SW := fun _ _ => False
theorem ps_neverS {X : Cx} {sts : List Stmt} : PSs X sts tNever := ⟨fun _ _ _ _ _ _ h => h.elim⟩
theorem ps_never1 {X : Cx} {st : Stmt} : PS X st tNever := ⟨fun _ _ _ _ _ _ h => h.elim⟩
theorem ds_neverS {K : PySem.W.Frag} {W : WX} : DS K W tNever wNever := ⟨fun _ _ _ _ _ _ _ h _ => h.elim⟩
section
variable {K : PySem.W.Frag}
theorem o_mulA : Op2 K rMulA gMulA := op2IC fun _ _ _ => .int _
theorem o_fdivW : Op2 K rDivW gDivW := op2IC fun _ _ _ => .int _
end
def PureD (np m : Nat) (fs : FS) (wb : SW) : Prop := ∀ cs q e, cs.length = np → fs cs q e →
  wb { nx := fun τ => Keeps cs τ ∧ q .non (ends cs τ), rt := fun d τ => Keeps cs τ ∧ q d (ends cs τ), rf := fun _ _ => False, bk := fun _ => False, ct := fun _ => False, ex := fun x τ => Keeps cs τ ∧ e x (ends cs τ) } (cs ++ List.replicate m .any)
def PureF (np m : Nat) (fs : FSF) (wb : SW) : Prop := ∀ cs q e, cs.length = np → fs cs q e →
  wb { nx := fun _ => False, rt := fun _ _ => False, rf := fun ds τ => Keeps cs τ ∧ q ds (ends cs τ), bk := fun _ => False, ct := fun _ => False, ex := fun x τ => Keeps cs τ ∧ e x (ends cs τ) } (cs ++ List.replicate m .any)
def PureG (np m : Nat) (fs : FSF) (wb : SW) : Prop := ∀ cs q e, cs.length = np → fs cs q e → (∀ (i : Nat) (p : Addr) (k : Cont), cs[i]? ≠ some (.own p k)) ∧
  wb { nx := fun _ => False, rt := fun _ _ => False, rf := fun ds τ => Keeps cs τ ∧ q ds (ends cs τ), bk := fun _ => False, ct := fun _ => False, ex := fun x τ => Keeps cs τ ∧ e x (ends cs τ), rg := fun ds τ => Keeps cs τ ∧ q ds (ends cs τ) } (cs ++ List.replicate m .any)
theorem cmul_l {i j : Int} (h1 : -(2 ^ 64) < i) (h2 : i < 2 ^ 64) : CMulA i j := .inl (.inl ⟨h1, h2⟩)
theorem cmul_r {i j : Int} (h1 : -(2 ^ 64) < j) (h2 : j < 2 ^ 64) : CMulA i j := .inl (.inr ⟨h1, h2⟩)
end L3

/-! ## words for the pure part -/
namespace L3
open PySem PySem.Spec PyProof.Rows L2
variable [TB : TabT]
section
variable {K : PySem.W.Frag}
def isiD : D → String → Bool
  | .bl _, n => n == "bool" || n == "int"
  | .int _, n => n == "int"
  | .str _, n => n == "str"
  | .tup _, n => n == "tuple"
  | .lst _, n => n == "list"
  | .fl _, n => n == "list"
  | _, _ => false
abbrev kinds : List String := ["int", "bool", "str", "tuple", "list"]
mutual
def OkD (K : PySem.W.Frag) : D → Prop
  | .ty _ => False
  | .ins C _ => InsTy K C ∧ ∀ n ∈ kinds, PySem.W.kitOne K (.ref C) (.type n) = some false
  | .adr _ => False
  | .dc _ => False
  | .dtc _ => False
  | .oth t => ∀ n ∈ kinds, PySem.W.kitOne K t (.type n) = some false
  | .tup ds => OkDs K ds
  | .lst ds => OkDs K ds
  | .fl ds => OkDs K ds
  | .non => True
  | .bl _ => True
  | .int _ => True
  | .str _ => True
def OkDs (K : PySem.W.Frag) : List D → Prop
  | [] => True
  | d :: ds => OkD K d ∧ OkDs K ds
end
theorem okDs_mem : ∀ {ds : List D} {d : D}, OkDs K ds → d ∈ ds → OkD K d
  | [], d, _, h => by simp at h
  | x :: ds, d, h, hd => by
    have h : OkD K x ∧ OkDs K ds := by unfold OkDs at h; exact h
    rcases List.mem_cons.mp hd with rfl | hd
    · exact h.1
    · exact okDs_mem h.2 hd
theorem okDs_of : ∀ {ds : List D}, (∀ d ∈ ds, OkD K d) → OkDs K ds
  | [], _ => by unfold OkDs; trivial
  | x :: ds, h => by
    unfold OkDs
    exact ⟨h x (List.mem_cons_self ..), okDs_of fun d hd => h d (List.mem_cons_of_mem _ hd)⟩
theorem okTup {ds : List D} (h : OkD K (.tup ds)) {d : D} (m : d ∈ ds) : OkD K d := okDs_mem (by unfold OkD at h; exact h) m
theorem kit_tbl : ∀ a ∈ ["NoneType", "bool", "int", "str", "tuple", "list"], ∀ n ∈ kinds, kitB a n = some ((a == n) || (a == "bool" && n == "int")) := by decide +kernel
theorem isi_ok {d : D} {n : String} (h : OkD K d) (hn : n ∈ kinds) : TyOk K d ∧ PySem.W.kitOne K (tyD d) (.type n) = some (isiD d n) := by
  have five : n = "int" ∨ n = "bool" ∨ n = "str" ∨ n = "tuple" ∨ n = "list" := by simpa [kinds] using hn
  have t : ∀ a ∈ ["NoneType", "bool", "int", "str", "tuple", "list"], PySem.W.kitOne K (.type a) (.type n) = some ((a == n) || (a == "bool" && n == "int")) := fun a ha => kit_ty (kit_tbl a ha n hn)
  cases d with
  | ty _ => unfold OkD at h; exact h.elim
  | ins C gs => unfold OkD at h; exact ⟨.inr ⟨C, gs, rfl, h.1⟩, h.2 n hn⟩
  | adr _ => unfold OkD at h; exact h.elim
  | dc _ => unfold OkD at h; exact h.elim
  | dtc _ => unfold OkD at h; exact h.elim
  | oth t => unfold OkD at h; exact ⟨.inl trivial, h n hn⟩
  | non => refine ⟨.inl trivial, (t "NoneType" (by simp)).trans ?_⟩; rcases five with rfl | rfl | rfl | rfl | rfl <;> simp [isiD]
  | bl _ => refine ⟨.inl trivial, (t "bool" (by simp)).trans ?_⟩; rcases five with rfl | rfl | rfl | rfl | rfl <;> simp [isiD]
  | int _ => refine ⟨.inl trivial, (t "int" (by simp)).trans ?_⟩; rcases five with rfl | rfl | rfl | rfl | rfl <;> simp [isiD]
  | str _ => refine ⟨.inl trivial, (t "str" (by simp)).trans ?_⟩; rcases five with rfl | rfl | rfl | rfl | rfl <;> simp [isiD]
  | tup _ => refine ⟨.inl trivial, (t "tuple" (by simp)).trans ?_⟩; rcases five with rfl | rfl | rfl | rfl | rfl <;> simp [isiD]
  | lst _ => refine ⟨.inl trivial, (t "list" (by simp)).trans ?_⟩; rcases five with rfl | rfl | rfl | rfl | rfl <;> simp [isiD]
  | fl _ => refine ⟨.inl trivial, (t "list" (by simp)).trans ?_⟩; rcases five with rfl | rfl | rfl | rfl | rfl <;> simp [isiD]
/-- isinstance(d, n) -/
theorem gIsi_ok {d : D} {n : String} {q : D → Prop} (h : OkD K d) (hn : n ∈ kinds) (hq : q (.bl (isiD d n))) : gIsi K [d, .ty n] q :=
  ⟨d, n, _, rfl, (isi_ok h hn).1, (isi_ok h hn).2, hq⟩
/-- a comprehension that maps what passes the test -/
theorem lc_fm {ds : List D} {τ1 : List Cell} {wg : GW} {wt : TW} {we : EW} {vs : List Nat} {q : D → List Cell → Prop} (f : D → D) (p : D → Bool) (hn : ds.length ≤ 1000)
    (hs : ∀ d ∈ ds, ∀ (k1 : D → List Cell → Prop) (k2 : List Cell → Prop), (p d = true → ∀ τ5, wipeD τ5 vs = wipeD τ1 vs → k1 (f d) τ5) → (p d = false → ∀ τ5, wipeD τ5 vs = wipeD τ1 vs → k2 τ5) →
      wg d (wipeD τ1 vs) fun τ3 => wt τ3 (fun b τ4 => (b = true → we τ4 k1 noX) ∧ (b = false → k2 τ4)) noX)
    (hq : q (.lst ((ds.filter p).map f)) (wipeD τ1 vs)) :
    ds.length ≤ 1000 ∧ ∃ inv : Nat → List D → List Cell → Prop, inv 0 [] (wipeD τ1 vs) ∧
    (∀ i d acc τ2, ds[i]? = some d → inv i acc τ2 → acc.length ≤ i → wg d τ2 fun τ3 => wt τ3 (fun b τ4 => (b = true → we τ4 (fun y τ5 => inv (i + 1) (acc ++ [y]) (wipeD τ5 vs)) noX) ∧ (b = false → inv (i + 1) acc (wipeD τ4 vs))) noX) ∧
    ∀ acc τ2, inv ds.length acc (wipeD τ2 vs) → acc.length ≤ ds.length → q (.lst acc) (wipeD τ2 vs) := by
  refine ⟨hn, fun i acc τ => acc = ((ds.take i).filter p).map f ∧ τ = wipeD τ1 vs, ⟨by simp, rfl⟩, ?_, ?_⟩
  · rintro i d acc τ2 hd ⟨rfl, rfl⟩ _
    have tk : ds.take (i + 1) = ds.take i ++ [d] := by
      rw [List.take_add_one, hd]
      rfl
    refine hs d (List.mem_of_getElem? hd) _ _ (fun hp τ5 e => ⟨?_, e⟩) (fun hp τ5 e => ⟨?_, e⟩)
    · rw [tk, List.filter_append, List.map_append]
      simp [hp]
    · rw [tk, List.filter_append, List.map_append]
      simp [hp]
  · rintro acc τ2 ⟨rfl, e⟩ _
    rw [e, List.take_length]
    exact hq
end
end L3
namespace L3
open PySem PySem.Spec PyProof.Rows L2
variable [TB : TabT]
theorem gIsi_iff {K : PySem.W.Frag} {d : D} {n : String} {q : D → Prop} (h : OkD K d) (hn : n ∈ kinds) : gIsi K [d, .ty n] q ↔ q (.bl (isiD d n)) := by
  refine ⟨fun ⟨d', n', b, e, _, e2, hq⟩ => ?_, gIsi_ok h hn⟩
  cases e
  rw [(isi_ok h hn).2] at e2
  cases e2
  exact hq
end L3
namespace L3
open PySem PySem.Spec PyProof.Rows L2
variable [TB : TabT]
theorem atI_nat' {α : Type} {l : List α} {k : Nat} {x : α} (h : l[k]? = some x) : atI l (k : Int) = some x := by
  have hk := (List.getElem?_eq_some_iff.mp h).1
  unfold atI ixN
  rw [if_pos (Int.natCast_nonneg k), if_pos (by omega)]
  exact h
theorem atI0 {α : Type} {x : α} {r : List α} : atI (x :: r) 0 = some x := atI_nat' (k := 0) rfl
theorem atI1 {α : Type} {x y : α} {r : List α} : atI (x :: y :: r) 1 = some y := atI_nat' (k := 1) rfl
theorem atI2 {α : Type} {x y z : α} {r : List α} : atI (x :: y :: z :: r) 2 = some z := atI_nat' (k := 2) rfl
theorem atI3 {α : Type} {x y z a : α} {r : List α} : atI (x :: y :: z :: a :: r) 3 = some a := atI_nat' (k := 3) rfl
theorem atI4 {α : Type} {x y z a b : α} {r : List α} : atI (x :: y :: z :: a :: b :: r) 4 = some b := atI_nat' (k := 4) rfl
theorem ixN51 : ixN 5 1 = some 1 := by decide
theorem ixN52 : ixN 5 2 = some 2 := by decide
theorem ixN53 : ixN 5 3 = some 3 := by decide
/-- where the law's draws stand -/
def SrcC (c : Cont) : Prop := ∃ (ns : List Int) (i r t f : Int), c = .lst [.lst (ns.map D.int), .int i, .int r, .int t, .int f] ∧ 0 ≤ i ∧ 0 ≤ r
end L3
namespace L3
theorem seqD_t {ds : List D} : seqD (.tup ds) = some ds := rfl
theorem seqD_l {ds : List D} : seqD (.lst ds) = some ds := rfl
theorem seqD_f {ds : List D} : seqD (.fl ds) = some ds := rfl
end L3
namespace L3
open PySem PySem.Spec PyProof.Rows L2
variable [TB : TabT]
theorem atIm1_2 {α : Type} {x y : α} : atI [x, y] (-1) = some y := rfl
theorem atIm1_3 {α : Type} {x y z : α} : atI [x, y, z] (-1) = some z := rfl
theorem gEqD_refl {d : D} {p : PyData} {q : D → Prop} (h : toPy d = some p) (hs : SeqAt.shaped p = true) (hq : q (.bl true)) : gEqD d d q :=
  ⟨p, p, h, h, hs, hs, by rw [SeqAt.eqv_refl _ (SeqAt.canLay_of_shaped hs)]; exact hq⟩
theorem gNeD_refl {d : D} {p : PyData} {q : D → Prop} (h : toPy d = some p) (hs : SeqAt.shaped p = true) (hq : q (.bl false)) : gNeD d d q :=
  ⟨p, p, h, h, hs, hs, by rw [SeqAt.eqv_refl _ (SeqAt.canLay_of_shaped hs)]; exact hq⟩
end L3

/-! ## an own error whose __init__ does nothing, made without arguments -/
namespace L3
open PySem PySem.Spec PyProof.Rows L2
variable [TB : TabT]
section
open PySem.W PySem.Calls PySem.HandSPX
def xA (p1 : Pos) : Arguments := { posonlyargs := [], args := [{ arg := "self", annotation := none, pos := p1 }], vararg := none, kwonlyargs := [], kw_defaults := [], kwarg := none, defaults := [] }
def xB (q1 : Pos) : List Stmt := [.Pass q1]
def xS : Scope := { kind := .function, names := [(PySem.Str.ofString "self", .local)], isGenerator := false, isCoroutine := false, more := [] }
structure Exc0 (K : Frag) (mg : Str → Option Value) (x qn : Str) (C fI : Addr) : Prop where
  gC : mg x = some (.ref C)
  cls : ∃ nm q N bs bm sn sub ab col dd k0 k1 k2 k3 k5, K.lookup C = some (excClassObj nm q C N bs bm true sn sub ab col dd k0 k1 k2 k3 k5 "ValueError.__new__") ∧ refsVE bm = true
  iC : findIn K (.ref C) "__init__" = some (some (.ref fI))
  tC : typeIn K (.ref fI) = some (.type "function")
  kC : keepIn K (.ref C) = true
  exC : subIn K (.ref C) (.type "BaseException") = some true
  tyC : typeIn K (.ref C) = some (.type "type")
  fn : ∃ (oc : Value) (od : Option Addr) (doc pm : Value) (an : Option Addr) (cdv ct : Value) (osl : Array (Option Value)) (p1 q1 : Pos),
    K.lookup fI = some ⟨oc, od, .func (fnOf "__init__" qn (xA p1) (xB q1) xS .none .none doc pm an cdv ct), osl⟩ ∧ codeIn K cdv qn = true
variable {prog : Program} {w : World} {A : Around} {E : Value → Shared → Prop} {R : Result → Shared → Prop} {s : Shared} {K : Frag} {mg : Str → Option Value} {C fI : Addr} {x qn : Str}
theorem exc0_init (T : Exc0 K mg x qn C fI) {e : Addr} (X : K.In s.heap) (hlim : s.heap.NoLimit) (hroom : A.depth < recursionLimit)
    (hq : ∀ h' tk, (∀ b o, s.heap.get? b = some o → h'.get? b = some o) → R (.ok (.ret .none)) { s with heap := h', toks := tk }) :
    codeAny (model prog w) A (.call (.ref fI) ⟨[.ref e], []⟩) R s := by
  obtain ⟨oc, od, doc, pm, an, cdv, ct, osl, p1, q1, ho, hcd⟩ := T.fn
  refine Att.call_fn (binds := [("self", .ref e)]) X hlim ho hcd hroom (BindsTo.of_eq (by first | rfl | with_unfolding_all rfl)) (by first | rfl | decide | with_unfolding_all rfl) (fun s₁ IC => ?_) rfl rfl rfl
  obtain ⟨h₁, tk₁, rfl⟩ := IC.toInCall.same
  have k : ∀ b o, s.heap.get? b = some o → h₁.get? b = some o := IC.toInCall.keep
  show wpAny _ _ (execs _ _) _ _ _
  refine wpAny_execs_cons (wpAny_Pass ?_)
  show wpAny _ _ (execs _ _) _ _ _
  exact wpAny_execs_nil (hq h₁ tk₁ k)
theorem exc0_made (T : Exc0 K mg x qn C fI) (X : K.In s.heap) (hlim : s.heap.NoLimit) (hroom : A.depth + 1 < recursionLimit)
    (hq : ∀ h' tk e, (∀ b o, s.heap.get? b = some o → h'.get? b = some o) → s.heap.objs.size ≤ e → (∃ t0, h'.get? e = some (excO C t0)) → R (.ok (.ret (.ref e))) { s with heap := h', toks := tk }) :
    codeAny (model prog w) A (.call (.ref C) ⟨[], []⟩) R s := by
  obtain ⟨nm, q, N, bs, bm, sn, sub, ab, col, dd, k0, k1, k2, k3, k5, hC, hbm⟩ := T.cls
  obtain ⟨hp, g, dr, tk, os⟩ := s
  have k : ∀ b o, hp.get? b = some o → ((hp.push (kdv_tup [])).push (excO C hp.objs.size)).get? b = some o := fun b o e => Heap.get?_push_of_some _ (Heap.get?_push_of_some _ e)
  have hget : ((hp.push (kdv_tup [])).push (excO C hp.objs.size)).get? (hp.objs.size + 1) = some (excO C hp.objs.size) := by heap_get
  refine call_own F.excBase_ValueError (fun X => refsVE_contains X bm hbm) (X _ _ hC) (looks_findIn X T.iC) (fun self => bind_fn X self T.tC) (Nat.zero_le _) ?_
  refine exc0_init (s := ⟨(hp.push (kdv_tup [])).push (excO C hp.objs.size), g, dr, tk, os⟩) T (X.keeps k) (hlim.keeps k) ?_ fun h' tk' k' => ?_
  · show A.depth + 1 < recursionLimit
    exact hroom
  · exact ⟨rfl, hq h' tk' (hp.objs.size + 1) (fun b o e => k' b o (k b o e)) (Nat.le_succ _) ⟨_, k' _ _ hget⟩⟩
end
section
variable {X : Cx} {C fI : Addr} {x qn : Str}
/-- x() as what is raised -/
theorem pmk0 {p pos : Pos} {k : Nat} (T : Exc0 X.K X.mg x qn C fI) (hr : Room k X.A) (hg : Gl X x := by rfl) (hdb : (x == ("__debug__" : Str)) = false := by decide) :
    PMk X (.Call (.Name x p) [] [] pos) (fun _ H Q => Q (.ref C) none H) := by
  intro pins s σ H Q I h
  refine wpAny_Call_Name_kw (ld_glob I hg T.gC ?_ hdb)
  refine PySem.W.callWith_K0 I.kIn T.kC ?_
  have hlim := I.nolimit
  obtain ⟨hp, g, dr, tk, os⟩ := s
  refine wpAny_call (exc0_made T I.kIn hlim (by have := hr.dp; omega) fun h' tk' e kp hn ⟨t0, he⟩ => ?_)
  show MkP X pins σ Q (.ref e) ⟨h', g, dr, tk', os⟩
  obtain ⟨G', g1, g2⟩ := restrict h' fun b => decide (b ≠ e)
  have gk : ∀ b, b ≠ e → G'.get? b = h'.get? b := fun b hb => g1 b (decide_eq_true hb)
  have ge : G'.get? e = none := g2 e (by simp)
  have old : ∀ b o, hp.get? b = some o → G'.get? b = some o := fun b o q => (gk b (Nat.ne_of_lt (Nat.lt_of_lt_of_le (Heap.lt_size q) hn))).trans (kp b o q)
  have J : Inv X pins σ H ⟨G', g, dr, tk', os⟩ := I.kept (t' := tk') old
  refine ⟨e, _, _, ⟨G', g, dr, tk', os⟩, H, .ref C, none, rfl, J, fun b o q => ?_, ge, he, ⟨rfl, rfl⟩, rfl, rfl, I.hok.fresh hn, rfl, I.bare, raises_own T.exC T.tyC, h⟩
  by_cases hb : b = e
  · have q' : G'.get? b = some o := q
    rw [hb, ge] at q'; cases q'
  · exact (gk b hb).symm.trans q
end
section
variable {K : PySem.W.Frag} {W : WX}
def wRaise0 (C : Addr) : SW := fun E τ => E.ex ⟨C, []⟩ τ
theorem ds_raise0 {C : Addr} : DS K W (fun _ σ H => (fun (_ : L2.St) (H : Hp) (Q : XK) => Q (.ref C) none H) σ H fun cls d H' => W cls d σ H') (wRaise0 C) :=
  ⟨fun σ H τ F Dn E S hw o => o.ex σ _ _ none τ F H (.refl S) ⟨rfl, .inl ⟨rfl, rfl⟩⟩ hw⟩
end
end L3

/-! ## sorted, of things of any depth -/
namespace L3
open PySem PySem.Spec PyProof.Rows L2
variable [TB : TabT]
section
variable {X : Cx}
theorem reads_each {pins : List (Addr × Obj)} {σ : L2.St} {H : Hp} {s : Shared} (I : Inv X pins σ H s) : ∀ {bs : List (V × PyData)} {us : List Value}, Vals (bs.map (·.1)) us → (∀ b ∈ bs, Dp X.K H b.1 b.2) →
    PySem.W.EachIs (fun v (b : V × PyData) => RelV b.1 v) us bs ∧ PySem.W.EachIs (fun v (b : V × PyData) => ∃ as, Reads s.heap v b.2 as) us bs
  | [], _, .nil, _ => ⟨.nil, .nil⟩
  | b :: bs, _, .cons r t, h => by
    obtain ⟨h1, h2⟩ := reads_each I t fun c hc => h c (List.mem_cons_of_mem _ hc)
    exact ⟨.cons r h1, .cons (Dp.reads I b.2 b.1 _ (h b (List.mem_cons_self ..)) r) h2⟩
theorem each_vals : ∀ {bs : List (V × PyData)} {us : List Value}, PySem.W.EachIs (fun v (b : V × PyData) => RelV b.1 v) us bs → Vals (bs.map (·.1)) us
  | _, _, .nil => .nil
  | _, _, .cons r t => .cons r (each_vals t)
def rSortG (K : PySem.W.Frag) : List V → Hp → VK → Prop := fun vs H Q => ∃ (a : Addr) (bs : List (V × PyData)), vs = [.ref a] ∧ SqL K H a (bs.map (·.1)) ∧ (∀ b ∈ bs, Dp K H b.1 b.2) ∧ PySem.W.AllAlike (bs.map (·.2)) ∧ PySem.W.Sortable (bs.map (·.2)) ∧ (∀ b ∈ bs, b.2.depth ≤ 60) ∧
  ∀ p, H p = none → Q (.ref p) (upd H p (.lst ((bs.mergeSort (PySem.W.dataLe false fun b => b.2)).map (·.1))))
theorem cr_sortG (hu : X.A.units + 64 < cLine) : CallR X (.builtin "sorted") (rSortG X.K) := by
  intro pins s σ H vs us Q I r h
  obtain ⟨a, bs, rfl, hs, hd, hal, hk, hdep, q⟩ := h
  obtain ⟨its, rv, hl, hz⟩ := I.list hs
  obtain ⟨u, rfl, ru⟩ := vals1 r
  obtain rfl : u = Value.ref a := ru
  obtain ⟨e1, e2⟩ := reads_each I rv hd
  have hlen : bs.length ≤ sizeLine := by
    have := rv.length
    rw [List.length_map] at this hz
    exact hz
  refine PySem.W.sorted_data (R := fun v (b : V × PyData) => RelV b.1 v) (enc := fun b => b.2) hl.isList e1 e2 hal hk hlen (fun b hb => by have := hdep b hb; omega) fun out ho eo => ?_
  obtain ⟨c, hc⟩ := sortedAll_at s.heap its out.toArray
  have vo := each_vals eo
  have hf := I.hok.fresh (Nat.le_succ s.heap.objs.size)
  refine ⟨.ref (s.heap.objs.size + 1), _, I.laid (t' := s.toks) (fun b o e => sortedAll_old e) (Nat.le_succ _) (o := .lst ((bs.mergeSort (PySem.W.dataLe false fun b => b.2)).map (·.1))) ⟨?_, out, c, vo, hc⟩, rfl, q _ hf⟩
  rw [vo.length, ho]
  exact hlen
end
section
variable {K : PySem.W.Frag} {W : WX}
def pyD (d : D) : PyData := (toPy d).getD .none
def leD (a b : D) : Bool := PySem.W.dataLe false (fun d => pyD d) a b
/-- sorted(xs) -/
def gSort : List D → (D → Prop) → Prop := fun ds q => ∃ es, (ds = [.lst es] ∨ ds = [.fl es]) ∧ (∀ e ∈ es, (toPy e).isSome) ∧ PySem.W.AllAlike (es.map pyD) ∧ PySem.W.Sortable (es.map pyD) ∧ (∀ e ∈ es, (pyD e).depth ≤ 60) ∧ q (.lst (es.mergeSort leD))
theorem reps_pairs {F : Hp} : ∀ {vs : List V} {ds : List D}, Reps K F vs ds → ∃ bs : List (V × D), bs.map (·.1) = vs ∧ bs.map (·.2) = ds ∧ ∀ b ∈ bs, Rep K F b.1 b.2
  | _, _, .nil => ⟨[], rfl, rfl, fun b h => by simp at h⟩
  | _, _, .cons (v := v) (d := d) r t => by
    obtain ⟨bs, h1, h2, h3⟩ := reps_pairs t
    refine ⟨(v, d) :: bs, by rw [List.map_cons, h1], by rw [List.map_cons, h2], fun b hb => ?_⟩
    rcases List.mem_cons.mp hb with rfl | hb
    · exact r
    · exact h3 b hb
theorem pairs_reps {F : Hp} : ∀ {bs : List (V × D)}, (∀ b ∈ bs, Rep K F b.1 b.2) → Reps K F (bs.map (·.1)) (bs.map (·.2))
  | [], _ => .nil
  | b :: bs, h => .cons (h b (List.mem_cons_self ..)) (pairs_reps fun c hc => h c (List.mem_cons_of_mem _ hc))
theorem o_sort : OpN K (rSortG K) gSort := by
  rintro F H xs ds q Q s r ⟨es, e, hsome, hal, hk, hdep, hq⟩ k
  have : ∃ a vs, xs = [.ref a] ∧ SqL K F a vs ∧ Reps K F vs es := by
    rcases e with rfl | rfl
    · obtain ⟨v, rfl, r1⟩ := r.one
      cases r1 with
      | lst h r => exact ⟨_, _, rfl, .inl (.inl h), r⟩
    · obtain ⟨v, rfl, r1⟩ := r.one
      cases r1 with
      | fl h r => exact ⟨_, _, rfl, h, r⟩
  obtain ⟨a, vs, rfl, hs, rs⟩ := this
  obtain ⟨bs, rfl, rfl, hb⟩ := reps_pairs rs
  let f : V × D → V × PyData := fun b => (b.1, pyD b.2)
  have m1 : (bs.map f).map (·.1) = bs.map (·.1) := by rw [List.map_map]; rfl
  have m2 : (bs.map f).map (·.2) = (bs.map (·.2)).map pyD := by rw [List.map_map, List.map_map]; rfl
  refine ⟨a, bs.map f, rfl, by rw [m1]; exact s.seq hs, fun b hm => ?_, by rw [m2]; exact hal, by rw [m2]; exact hk, fun b hm => ?_, fun p hp => ?_⟩
  · obtain ⟨c, hc, rfl⟩ := List.mem_map.mp hm
    have h1 := hsome c.2 (List.mem_map.mpr ⟨c, hc, rfl⟩)
    obtain ⟨pd, e⟩ := Option.isSome_iff_exists.mp h1
    have e2 : pyD c.2 = pd := by unfold pyD; rw [e]; rfl
    show Dp K H c.1 (pyD c.2)
    rw [e2]
    exact Dp_mono s (dp_of (hb c hc) e)
  · obtain ⟨c, hc, rfl⟩ := List.mem_map.mp hm
    exact hdep c.2 (List.mem_map.mpr ⟨c, hc, rfl⟩)
  · have e1 : (bs.map f).mergeSort (PySem.W.dataLe false fun b => b.2) = (bs.mergeSort fun a b => leD a.2 b.2).map f := by
      symm
      apply List.map_mergeSort
      intro a _ b _
      rfl
    have e2 : (bs.mergeSort fun a b => leD a.2 b.2).map (·.2) = (bs.map (·.2)).mergeSort leD := by
      apply List.map_mergeSort
      intro a _ b _
      rfl
    rw [e1, List.map_map]
    have e3 : ((fun b : V × PyData => b.1) ∘ f) = fun b : V × D => b.1 := rfl
    rw [e3]
    obtain ⟨x1, x2⟩ := new_ext (o := .lst ((bs.mergeSort fun a b => leD a.2 b.2).map (·.1))) s hp
    refine k _ (.lst ((bs.map (·.2)).mergeSort leD)) _ _ x1 x2 (.lst upd_same ?_) hq
    rw [← e2]
    refine pairs_reps fun b hm => ?_
    exact (hb b (List.mem_mergeSort.mp hm)).mono (new_same s hp)

/-! ## dicts that are written, things that are only handed about -/
def wDict0 : EW := fun τ q _ => q (.oth (.type "dict")) τ
theorem de_dict0 : DE K W tDNewK wDict0 := by
  refine ⟨fun σ H τ F Q q e S hq k _ p hp => ?_⟩
  obtain ⟨x1, x2⟩ := new_ext (o := .dK []) S.sub hp
  exact k _ _ τ _ _ (.small S x1 x2) (.oth (.base (.dK upd_same))) hq
def keyD : D → Option Key | .int i => some (.inl i) | .str x => some (.inr x) | _ => none
/-- {k: v} -/
def wDict1 (wk wv : EW) : EW := fun τ q e => wk τ (fun k τ1 => wv τ1 (fun _ τ2 => (keyD k).isSome ∧ q (.oth (.type "dict")) τ2) e) e
theorem de_dict1 {tk tv : TE} {wk wv : EW} (hk : DE K W tk wk) (hv : DE K W tv wv) : DE K W (tDisp [(tk, tv)]) (wDict1 wk wv) := by
  refine ⟨fun σ H τ F Q q e S hw kq x p hp => ?_⟩
  have nF := new_not_data S hp
  have nO := new_not_own S hp
  have T0 : To K F H σ τ F (upd H p (.dK [])) τ := (To.refl S).touch (fr_none hp) nF nO (tabs_new hp)
  refine hk.run σ _ τ F _ _ e T0.ok hw (fun v1 d1 τ1 F1 H1 t1 r1 h1 => ?_) (x.of T0)
  refine hv.run σ H1 τ1 F1 _ _ e t1.ok h1 (fun v2 d2 τ2 F2 H2 t2 r2 ⟨hs, hq⟩ => ?_) ((x.of T0).of t1)
  have t12 := t1.trans t2
  have hP : H2 p = some (.dK []) := t12.ext.keep p _ upd_same (fun z => nO z) (fun ps z => by cases z)
  have nF2 : F2 p = none := t12.not_data (o := .dK []) nO upd_same nF
  have nO2 : ¬ IsOwn τ2 p := t12.not_own (o := .dK []) nO upd_same
  obtain ⟨key, ek⟩ := Option.isSome_iff_exists.mp hs
  have ev : v1 = kV key := by
    cases d1 <;> cases ek
    · exact r1.int_of
    · cases r1; rfl
  refine ⟨hP, [(key, v2)], by rw [ev]; rfl, by simp, ?_⟩
  have T2 := T0.trans t12
  have T3 : To K F H σ τ F2 (upd H2 p (.dK (mergeK [] [(key, v2)]))) τ2 := T2.touch (fr_none hp) nF2 nO2 (tabs_dK hP)
  exact kq _ _ τ2 _ _ (T3.freeze (fr_none hp) nF2 upd_same nO2) (.oth (.base (.dK upd_same))) hq
end
end L3

/-! ## enumerate of a tuple, t[::-1] -/
namespace L3
open PySem PySem.Spec PyProof.Rows L2
theorem wp_ctt {M : Model} {A : Around} {Q : Bool → Shared → Prop} {E : Value → Shared → Prop} {s : Shared} {c : Value} (h : ∀ b, Q b s) : wpAny M A (Builtin.SmallTypes.calledThroughType c) Q E s := wpAny_bind (wpAny_stack_any fun _ => wpAny_pure (h _))
theorem meets_enumT (v : Value) (o : Obj) (H : Heap → Prop)
    (hit : ∀ (prog : Program) (w : World) (A : Around) (E : Value → Shared → Prop) (s : Shared) (Q : Value → Shared → Prop), H s.heap →
      Q (.ref s.heap.objs.size) { s with heap := s.heap.push o } → wpAny (model prog w) A (pyIter v) Q E s) :
    Meets (Builtin.«enumerate.__new__» { pos := [.type "enumerate", v] }) fun _ R s => H s.heap ∧
      R (.ok (.ret (.ref (s.heap.push o).objs.size))) { s with heap := (s.heap.push o).push { cls := .type "enumerate", data := .fields #[.none, .bool false, .ref s.heap.objs.size, rawInt 0, .none, .none] } } := by
  refine Meets.of_wp fun prog w A R s h => ?_
  obtain ⟨h1, h2⟩ := h
  have hsub := sub_enumerate
  unfold Builtin.«enumerate.__new__» Builtin.SmallTypes.newClass
  refine wpAny_bind ?_
  show wpAny _ _ ((isType (.type "enumerate")) >>= _) _ _ _
  refine wpAny_bind ?_
  refine wpAny_pure ?_
  refine wpAny_ite_false rfl ?_
  refine wpAny_bind (wpAny_of_eq hsub (wpAny_ite_false rfl (wpAny_pure ?_)))
  refine wpAny_ite_true rfl ?_
  refine wpAny_bind ?_
  have fin : wpAny (model prog w) A.in1 (do
              let __do_lift ← pyIter v
              let __do_lift ←
                Builtin.SmallTypes.newRecord (Value.type "enumerate")
                    (Builtin.SmallTypes.ownedTupleFields ++ [__do_lift, rawInt 0, Value.none, Value.none])
              ret __do_lift) (fun fin s' => ∃ v, fin = Fin.done (Flow.ret v) ∧ R (Except.ok (Flow.ret v)) s') (fun e s' => R (Except.error e) s') s := by
    refine wpAny_bind (hit prog w A.in1 _ s _ h1 ?_)
    refine wpAny_bind ?_
    unfold Builtin.SmallTypes.newRecord
    refine wpAny_newObj_type ?_ (show (6 : Nat) ≤ sizeLine + 2 by decide)
    exact wpAny_pure ⟨_, rfl, h2⟩
  refine wp_ctt fun short => ?_
  cases short
  · refine wpAny_ite_false rfl ?_
    refine wpAny_bind ?_
    refine wpAny_pure (a := (v, none)) ?_
    exact fin
  · refine wpAny_ite_true rfl ?_
    refine wpAny_bind ?_
    refine wpAny_pure (a := (v, none)) ?_
    exact fin
theorem call_enumT {prog : Program} {w : World} {A : Around} {E : Value → Shared → Prop} {s : Shared} {t : Addr} {items : Array Value} {Q : Value → Shared → Prop} (ht : s.heap.IsTuple t items)
    (h : ∀ h' : Heap, IsEnum h' (s.heap.objs.size + 1) s.heap.objs.size 0 .none → h'.IsTupleIter s.heap.objs.size t 0 → h'.objs.size = s.heap.objs.size + 2 → (∀ (b : Addr) (o : Obj), s.heap.get? b = some o → h'.get? b = some o) →
      Q (.ref (s.heap.objs.size + 1)) { s with heap := h' }) : wpAny (model prog w) A (call (.type "enumerate") [.ref t]) Q E s := by
  let io : Obj := { cls := .type "tuple_iterator", data := .fields #[.ref t, .int 0 0] }
  refine callType_new F.called_enumerate (by decide) (F.typeCall_enumerate_1 _) (F.newCall_enumerate_1 _) (fun obj => F.args_object_init_2 obj _) F.entry_enumerate_new (meets_enumT (.ref t) io (fun h => h.IsTuple t items) fun prog w A E s Q hh hq => wpAny_pyIter_tuple hh hq) ⟨ht, ?_⟩
  have hz := Heap.size_push s.heap io
  have he : ((s.heap.push io).push { cls := .type "enumerate", data := .fields #[.none, .bool false, .ref s.heap.objs.size, rawInt 0, .none, .none] }).get? (s.heap.objs.size + 1) = some { cls := .type "enumerate", data := .fields #[.none, .bool false, .ref s.heap.objs.size, rawInt 0, .none, .none] } := by
    rw [← hz]
    exact Heap.get?_push_size (s.heap.push io) rfl
  rw [hz]
  refine ⟨⟨_, he, rfl⟩, h _ he ⟨io, Heap.get?_push_of_some _ (Heap.get?_push_size s.heap rfl), rfl, rfl⟩ ?_ fun b o e => Heap.get?_push_of_some _ (Heap.get?_push_of_some _ e)⟩
  rw [Heap.size_push, hz]
theorem draws_tuple {prog : Program} {w : World} {A : Around} (hh : A.handled = none) (it l : Addr) (hne : l ≠ it) (items : Array Value) :
    Draws prog w A it [it, l] items.size (fun i v => items[i]? = some v) fun i h => h.IsTupleIter it l i ∧ h.IsTuple l items := by
  refine ⟨fun _ _ st => ?_, fun _ _ _ st hk => ⟨st.1.at fun o e => hk it (by simp) o e, st.2.at fun o e => hk l (by simp) o e⟩, fun i s Q E hi st hQ => ?_, fun s Q E st hE => RZ.nextOf_tuple_end hh st.1 st.2 (by simp) hE⟩
  · obtain ⟨o, ho, _⟩ := st.1
    exact ⟨o, ho⟩
  · exact RZ.nextOf_tuple_item (x := items[i]) st.1 st.2 (by simp [hi]) fun h' hit' hs' => hQ items[i] h' s.toks (by simp [hi]) ⟨hit', st.2.extBut hs'.extBut hne⟩ hs'
theorem draws_end {prog : Program} {w : World} {A : Around} (hh : A.handled = none) (it l : Addr) {items : Array Value} {i : Nat} (hi : items[i]? = none) :
    Draws prog w A it [it, l] i (fun _ _ => False) fun j h => j = i ∧ h.IsTupleIter it l j ∧ h.IsTuple l items := by
  refine ⟨fun _ _ st => ?_, fun _ _ _ st hk => ⟨st.1, st.2.1.at fun o e => hk it (by simp) o e, st.2.2.at fun o e => hk l (by simp) o e⟩, fun j s Q E hj st hQ => absurd st.1 (Nat.ne_of_lt hj), fun s Q E st hE => RZ.nextOf_tuple_end hh st.2.1 st.2.2 hi hE⟩
  obtain ⟨o, ho, _⟩ := st.2.1
  exact ⟨o, ho⟩
def IteT (K : PySem.W.Frag) (a : Addr) : It where
  go i H := ∃ xs x, SqT K H a xs ∧ xs[i]? = some x
  yld i H v H' := ∃ T x, v = .ref T ∧ H T = none ∧ H' = upd H T (.tup [.int i, x]) ∧ ∀ xs, SqT K H a xs → xs[i]? = some x
  stop i H := ∃ xs, SqT K H a xs ∧ xs.length ≤ i
theorem turn_enumT {P : Program} {w : World} {K : PySem.W.Frag} {elts : List Expr} {kk : Nat} {tpos : Pos} (a e it : Addr) :
    Turn P w K (.Tuple elts kk tpos) (IteT K a) [e, it] e fun i h => (∃ old, IsEnum h e it (i : Int) old) ∧ h.IsTupleIter it a i ∧ e ≠ it := by
  refine ⟨by simp, fun i h ⟨⟨old, he⟩, ⟨o, ho, hc, hd⟩, _⟩ b hb => ?_, fun i h h' ⟨⟨old, he⟩, hi, hne⟩ k => ⟨⟨old, k e (by simp) _ he⟩, hi.at fun o q => k it (by simp) o q, hne⟩, ?_, ?_, fun A i s Q E ⟨⟨_, he⟩, _⟩ h => wpAny_pyIter_enum he h⟩
  · have e' : b = e ∨ b = it := by simpa using hb
    rcases e' with rfl | rfl
    · exact ⟨_, he, fun v q => by cases q⟩
    · exact ⟨o, ho, fun v q => by rw [hd] at q; cases q⟩
  · rintro X rfl rfl rfl hc i pins s σ H E I hf ⟨⟨old, he⟩, hit, hne⟩ ⟨xs, x, hq, hx⟩
    obtain ⟨its, rv, p, hz⟩ := I.tuple hq
    obtain ⟨u, hu, ru⟩ := rv.get hx
    have hel : e < s.heap.objs.size := Heap.lt_size he
    have hil : it < s.heap.objs.size := by
      obtain ⟨_, q, _⟩ := hit
      exact Heap.lt_size q
    have hat : a ≠ it := fun z => by
      subst z
      obtain ⟨o1, q1, c1, _⟩ := hit
      obtain ⟨o2, q2, c2, _⟩ := p
      rw [q1] at q2; cases q2; rw [c1] at c2; injection c2 with z; exact absurd z (by decide)
    have hae : e ∉ [it, a] := fun z => by
      have z' : e = it ∨ e = a := by simpa using z
      rcases z' with z' | rfl
      · exact hne z'
      · obtain ⟨o2, q2, c2, _⟩ := p
        rw [he] at q2; cases q2; injection c2 with z; exact absurd z (by decide)
    have hi : i < its.toArray.size := by
      rw [List.size_toArray]
      exact (List.getElem?_eq_some_iff.mp hu).1
    refine wpAny_pyNext_enum_itemD (draws_tuple (by exact I.ok.hd hc) it a hat its.toArray) he ⟨hit, p⟩ hi hne hae fun u' h' tk hu' ho hit' hT hsz hk => ?_
    have eu : u' = u := by
      have : its[i]? = some u' := by simpa using hu'
      rw [hu] at this; cases this; rfl
    subst eu
    refine ⟨_, rfl, wpAny_letOwnedTupleGo_enum ho fun h'' he' sb => ?_⟩
    have hT2 := (sb.2 s.heap.objs.size (Nat.ne_of_gt hel)).trans hT
    have I1 := I.turnedNew (h' := h'') (t' := tk + 1) (ch := [e, it]) (T := s.heap.objs.size) (ob := .tup [.int i, x]) (fun b ob hb q => (sb.2 b fun z => hb (by simp [z])).trans (hk b ob (fun z => hb (by simp [z])) (fun z => hb (by simp [z])) q)) hf (Nat.le_refl _)
      ⟨(show (2 : Nat) ≤ sizeLine by decide), [.int i tk, u'], .cons ⟨tk, rfl⟩ (.cons ru .nil), _, hT2, rfl, 0, rfl⟩
    refine ⟨.ref s.heap.objs.size, _, I1, rfl, ⟨_, x, rfl, I.hok.fresh (Nat.le_refl _), rfl, fun ys hy => ?_⟩, ⟨⟨u', he'⟩, hit'.1.at fun o q => (sb.2 it (Ne.symm hne)).trans q, hne⟩, fun b hb => ?_⟩
    · rw [I.tuple_inj hy hq]; exact hx
    · have e' : b = e ∨ b = it := by simpa using hb
      have hb' : b < s.heap.objs.size := by
        rcases e' with rfl | rfl
        · exact hel
        · exact hil
      rw [upd_ne (Nat.ne_of_lt hb')]
      exact (hf b hb).1
  · rintro X rfl rfl rfl hc i pins s σ H E I hf ⟨⟨old, he⟩, hit, hne⟩ ⟨xs, hq, hx⟩
    obtain ⟨its, rv, p, hz⟩ := I.tuple hq
    obtain ⟨f0, f1, f2, f3, f4, f5⟩ := hf it (by simp)
    have hat : a ≠ it := fun z => by
      subst z
      obtain ⟨o1, q1, c1, _⟩ := hit
      obtain ⟨o2, q2, c2, _⟩ := p
      rw [q1] at q2; cases q2; rw [c1] at c2; injection c2 with z; exact absurd z (by decide)
    have hl : its.toArray[i]? = none := by
      have := rv.length
      simp
      omega
    refine wpAny_pyNext_enum_endD (draws_end (by exact I.ok.hd hc) it a hl) he ⟨rfl, hit, p⟩ fun h' eb => ⟨rfl, I.turned (fun b o hb q => eb b o hb q) f0 f1 f3 f4 f5⟩
def iEnumT (K : PySem.W.Frag) (ta : TA) : TI := fun σ H R => ta σ H fun vs H1 => ∃ a xs, vs = [.ref a] ∧ SqT K H1 a xs ∧ R (IteT K a) H1
theorem pi_enumT {X : Cx} {e : Expr} {ta : TA} {p pos tpos : Pos} {elts : List Expr} {kk : Nat} (hg : Gl X "enumerate") (hm : X.mg "enumerate" = none) (ha : PA X [e] ta)
    (hs : starEach [e] X.env = [(false, eval e X.env)] := by rfl) : PI X (.Tuple elts kk tpos) (.Call (.Name "enumerate" p) [e] [] pos) (iEnumT X.K ta) := by
  refine ⟨fun pins s σ H R I h => ?_⟩
  refine Call_ (ld_blt I hg hm boot_enumerate (PyProof.Rows.callWith_type1 (thn (ha.run pos pins s σ H _ I h) fun us s1 ⟨vs, H1, I1, r1, a, xs, ex, hq, q⟩ => ?_) hs rfl) (by decide) (by decide)) rfl
  subst ex
  obtain ⟨u, rfl, ru⟩ := vals1 r1
  obtain rfl : u = .ref a := ru
  obtain ⟨its, rv, p, hz⟩ := I1.tuple hq
  refine call_enumT p fun h' he hit hsz hk => wpAny_pyIter_enum he ?_
  have I2 := I1.kept (t' := s1.toks) hk
  refine ⟨_, [s1.heap.objs.size + 1, s1.heap.objs.size], _, _, H1, rfl, I2, turn_enumT a _ _, ⟨⟨_, he⟩, hit, Nat.succ_ne_self _⟩, fun b hb => ?_, q⟩
  have hle : s1.heap.objs.size ≤ b := by
    have e' : b = s1.heap.objs.size + 1 ∨ b = s1.heap.objs.size := by simpa using hb
    rcases e' with rfl | rfl
    · exact Nat.le_succ _
    · exact Nat.le_refl _
  exact I1.fpOk hle (I1.hok.fresh hle)
section
variable [TB : TabT] {K : PySem.W.Frag} {W : WX}
def wEnumT (wa : AW) : IW := fun τ q e => wa τ (fun ds τ' => ∃ es, ds = [.tup es] ∧ q (es.mapIdx fun i d => .tup [.int i, d]) τ') e
theorem it_enumT {F : Hp} {a : Addr} {xs : List V} {ds : List D} (h : SqT K F a xs) (r : Reps K F xs ds) : ItOk K F (IteT K a) (ds.mapIdx fun i d => .tup [.int i, d]) := by
  refine ⟨fun i F2 H s s2 hi => ?_, fun F2 H s s2 => ⟨xs, SqT_mono s2 (SqT_mono s h), by rw [List.length_mapIdx, r.length]; exact Nat.le_refl _⟩, fun i F2 H x H' s s2 hi y => ?_⟩
  · rw [List.length_mapIdx, ← r.length] at hi
    exact ⟨xs, xs[i], SqT_mono s2 (SqT_mono s h), List.getElem?_eq_getElem hi⟩
  · obtain ⟨T, x', rfl, hT, rfl, e⟩ := y
    obtain ⟨d, e1, e2⟩ := (r.mono s).get (e xs (SqT_mono s2 (SqT_mono s h)))
    obtain ⟨x1, x2⟩ := new_ext (o := .tup [.int i, x']) s2 hT
    refine ⟨.tup [.int i, d], _, by rw [List.getElem?_mapIdx, e1]; rfl, x1, x2, .tup (.inl (.inl upd_same)) (.cons (.int _) (.cons (e2.mono (new_same s2 hT)) .nil))⟩
theorem di_enumT {t : TA} {w : AW} (h : DA K W t w) : DI K W (iEnumT K t) (wEnumT w) := by
  refine ⟨fun σ H τ F R q e S hw k x => h.run σ H τ F _ _ e S hw (fun vs ds τ' F' H' t' r ⟨es, ed, hq⟩ => ?_) x⟩
  subst ed
  obtain ⟨v, rfl, r1⟩ := r.one
  cases r1 with
  | tup hs r2 => exact ⟨_, _, rfl, SqT_mono t'.ok.sub hs, k _ _ τ' F' H' t' (it_enumT hs r2) hq⟩
end

/-! ### t[::-1] -/
theorem fm_congr {α β : Type} {f g : α → Option β} : ∀ {l : List α}, (∀ k ∈ l, f k = g k) → l.filterMap f = l.filterMap g
  | [], _ => rfl
  | a :: l, h => by
    have ih := fm_congr (f := f) (g := g) (l := l) fun k hk => h k (List.mem_cons_of_mem _ hk)
    rw [List.filterMap_cons, List.filterMap_cons, h a (List.mem_cons_self ..), ih]
theorem range_rev {α : Type} (l : List α) : (List.range l.length).filterMap (fun k : Nat => l.toArray[(((l.length : Int) - 1) + (k : Int) * (-1)).toNat]?) = l.reverse := by
  have e : ∀ k ∈ List.range l.length, l.toArray[(((l.length : Int) - 1) + (k : Int) * (-1)).toNat]? = l.reverse[k]? := fun k hk => by
    have hk := List.mem_range.mp hk
    have : (((l.length : Int) - 1) + (k : Int) * (-1)).toNat = l.length - 1 - k := by omega
    rw [this, List.getElem?_reverse hk]
    simp
  rw [fm_congr e, ← List.length_reverse]
  generalize l.reverse = m
  induction m with
  | nil => rfl
  | cons x m ih =>
    rw [List.length_cons, List.range_succ_eq_map, List.filterMap_cons]
    simp only [List.getElem?_cons_zero, List.filterMap_map]
    congr 1
theorem slice_rev {prog : Program} {w : World} {A : Around} {E : Value → Shared → Prop} {s : Shared} {sl : Addr} {vs : Value} {n : Nat} {Q : Int × Int × Nat → Shared → Prop} (hs : s.heap.IsSliceOf sl .none .none vs) (ps : IsPart vs (some (-1)))
    (h : Q ((n : Int) - 1, -1, n) s) : wpAny (model prog w) A (Builtin.Slice.sliceApplied (.ref sl) (pure (n : Int))) Q E s := by
  obtain ⟨os, hos, hcs, hds⟩ := hs
  unfold Builtin.Slice.sliceApplied Builtin.Slice.sliceFields
  refine wpAny_bind (wpAny_bind (wpAny_field hos hds rfl (wpAny_bind (wpAny_field hos hds rfl (wpAny_bind (wpAny_field hos hds rfl (wpAny_pure ?_)))))))
  refine wpAny_bind (HT.slicePart_ ps ?_)
  refine wpAny_ite_false (by decide) ?_
  refine wpAny_bind (slicePart_none (wpAny_bind (slicePart_none (wpAny_bind (wpAny_pure ?_)))))
  show wpAny _ _ (pure ((n : Int) - 1, (-1 : Int), Builtin.Slice.slicePlaces ((n : Int) - 1) (-1) (-1))) _ _ _
  have e : Builtin.Slice.slicePlaces ((n : Int) - 1) (-1) (-1) = n := by
    unfold Builtin.Slice.slicePlaces
    rw [if_neg (by decide)]
    by_cases hn : (n : Int) - 1 > -1
    · rw [if_pos hn]
      show (((n : Int) - 1 - -1 - 1) / 1 + 1).toNat = n
      rw [Int.ediv_one]
      omega
    · rw [if_neg hn]
      omega
  rw [e]
  exact wpAny_pure h
theorem getItem_tupleRev {prog : Program} {w : World} {A : Around} {E : Value → Shared → Prop} {s : Shared} {t sl : Addr} {its : List Value} {vs : Value} {Q : Value → Shared → Prop} (ht : IsTup s.heap t its.toArray) (hs : s.heap.IsSliceOf sl .none .none vs) (ps : IsPart vs (some (-1)))
    (hz : its.length ≤ sizeLine) (h : Q (.ref s.heap.objs.size) { s with heap := s.heap.push { cls := .type "tuple", data := .seq its.reverse.toArray } }) : wpAny (model prog w) A (getItem (.ref t) (.ref sl)) Q E s := by
  have hTs : s.TypeIs (.ref sl) "slice" := by
    obtain ⟨os, hos, hcs, _⟩ := hs
    exact ⟨os, hos, hcs⟩
  refine wpAny_holding (wpAny_bind (wpAny_sequenceKey ht.typeIs (by decide) (wpAny_bind (wpAny_callSpecial?_slot ht.typeIs slot_tuple_getitem (wpAny_call_entry slot_tuple_getitem ht.typeIs entry_tuple_getitem ?_)))))
  unfold Builtin.«tuple.__getitem__»
  refine wpAny_bind (wpAny_pure (a := (Value.ref t, [Value.ref sl])) ?_)
  refine wpAny_bind (tupleItemsOf_ ht (wpAny_bind (wpAny_typeOf hTs ?_)))
  refine wpAny_ite_true rfl (wpAny_bind (slice_rev hs ps ?_))
  rw [List.size_toArray]
  refine wpAny_ite_false (by simp) ?_
  show wpAny _ _ (Builtin.Tuple.tupleExact (((List.range its.length).filterMap (fun k : Nat => its.toArray[(((its.length : Int) - 1) + (k : Int) * (-1)).toNat]?)).toArray) >>= _) _ _ _
  rw [range_rev]
  refine wpAny_bind (wpAny_newObj_type ?_ (show its.reverse.toArray.size ≤ sizeLine by simpa using hz))
  exact wpAny_pure ⟨_, rfl, wpAny_pure h⟩
def tRevT (K : PySem.W.Frag) (te : TE) : TE := fun σ H Q => te σ H fun x H1 => ∃ a xs, x = .ref a ∧ SqT K H1 a xs ∧ ∀ p, H1 p = none → Q (.ref p) (upd H1 p (.tup xs.reverse))
theorem pe_revT {X : Cx} {e : Expr} {te : TE} {k : Nat} {p1 p2 p3 pos : Pos} (he : PE X e te) :
    PE X (.Subscript e (.Slice none none (some (.UnaryOp .USub (.Constant (.int 1) k p1) p2)) p3) pos) (tRevT X.K te) := by
  refine ⟨fun pins s σ H Q I h => ?_⟩
  refine Subscript_ (thn (he.run pins s σ H _ I h) fun v s1 ⟨x, H1, I1, r1, a, xs, ex, hx, q⟩ => ?_)
  subst ex
  cases r1
  have hst : PO X (some (.UnaryOp .USub (.Constant (.int 1) k p1) p2)) _ := po_some (pe_un un_neg pe_int)
  refine wpAny_Slice (thn (po_none.run pins s1 σ H1 (fun o H2 => o = none ∧ H2 = H1) I1 ⟨rfl, rfl⟩) fun vl s2 ⟨l, H2, I2, pl, el, e2⟩ => ?_)
  subst el; subst e2
  refine thn (po_none.run pins s2 σ H2 (fun o H3 => o = none ∧ H3 = H2) I2 ⟨rfl, rfl⟩) fun vu s3 ⟨u, H3, I3, pu, eu, e3⟩ => ?_
  subst eu; subst e3
  refine thn (hst.run pins s3 σ H3 (fun o H4 => o = some (-1) ∧ H4 = H3) I3 ⟨1, rfl, -1, rfl, rfl, rfl⟩) fun vs s4 ⟨o, H4, I4, ps, eo, e4⟩ => ?_
  subst eo; subst e4
  cases pl
  cases pu
  have I5 := I4.kept (t' := s4.toks) fun b ob q => Heap.get?_push_of_some { cls := Value.type "slice", data := Data.fields #[.none, .none, vs] } q
  obtain ⟨its, r, ht, hz⟩ := I5.tuple hx
  refine tail_any ht.typeIs slot_tuple_getitem.lookup (getItem_tupleRev ht (Heap.IsSliceOf.new s4.heap .none .none vs) ps (by rw [← r.length]; exact hz) ?_) rfl
  refine ⟨.ref _, _, I5.laid (t' := s4.toks) (fun b ob q => Heap.get?_push_of_some _ q) (Nat.le_refl _) (o := .tup xs.reverse) ⟨?_, its.reverse, r.reverse, IsTup.new _ _⟩, rfl, q _ (I5.hok.fresh (Nat.le_refl _))⟩
  rw [List.length_reverse]
  exact hz
section
variable [TB : TabT] {K : PySem.W.Frag} {W : WX}
theorem Reps.reverse {F : Hp} : ∀ {vs : List V} {ds : List D}, Reps K F vs ds → Reps K F vs.reverse ds.reverse
  | _, _, .nil => .nil
  | _, _, .cons h r => by
    rw [List.reverse_cons, List.reverse_cons]
    exact (Reps.reverse r).append (.cons h .nil)
def wRevT (we : EW) : EW := fun τ q e => we τ (fun d τ' => ∃ es, d = .tup es ∧ q (.tup es.reverse) τ') e
theorem de_revT {t : TE} {w : EW} (h : DE K W t w) : DE K W (tRevT K t) (wRevT w) := by
  refine ⟨fun σ H τ F Q q e S hw k x => h.run σ H τ F _ _ e S hw (fun v d τ' F' H' t' r ⟨es, ed, hq⟩ => ?_) x⟩
  subst ed
  cases r with
  | @tup a xs _ hs r =>
    refine ⟨a, xs, rfl, SqT_mono t'.ok.sub hs, fun p hp => ?_⟩
    obtain ⟨x1, x2⟩ := new_ext (o := .tup xs.reverse) t'.ok.sub hp
    exact k _ _ τ' _ _ (t'.trans (.small t'.ok x1 x2)) (.tup (.inl (.inl upd_same)) (r.reverse.mono (new_same t'.ok.sub hp))) hq
theorem o_catT : Op2 K (rCatT K) gCatT := by
  rintro F H x y d1 d2 q Q s r1 r2 ⟨as, bs, rfl, rfl, hn, hl, hq⟩ k
  cases r1 with
  | @tup a xs _ h1 r1 =>
    cases r2 with
    | @tup b ys _ h2 r2 =>
      refine ⟨a, b, xs, ys, rfl, rfl, SqT_mono s h1, SqT_mono s h2, fun z => hn ?_, by rw [r1.length, r2.length]; exact Nat.le_of_lt (small1000 hl), fun z => ?_, fun z p hp => ?_⟩
      · subst z; cases r1; rfl
      · subst z
        cases r2
        exact k _ (.tup as) F H (.refl _ _ _) s (.tup h1 r1) (by rw [List.append_nil] at hq; exact hq)
      · obtain ⟨x1, x2⟩ := new_ext (o := .tup (xs ++ ys)) s hp
        exact k _ (.tup (as ++ bs)) _ _ x1 x2 (.tup (.inl (.inl upd_same)) ((r1.append r2).mono (new_same s hp))) hq
/-- an own list becomes data where it stands -/
def wFrz (i : Nat) : EW := fun τ q _ => ∃ p es, τ[i]? = some (.own p (.lst es)) ∧ q (.lst es) (τ.set i (.dat (.lst es)))
theorem de_frz (i : Nat) : DE K W (tVar i) (wFrz i) := by
  refine ⟨fun σ H τ F Q q e S ⟨p, es, e0, hq⟩ k _ => ?_⟩
  obtain ⟨s0, f0, vs0, h0, r0⟩ := own_lst S e0
  have hi : i < τ.length := (List.getElem?_eq_some_iff.mp e0).1
  refine ⟨.ref p, s0, ?_⟩
  have s : Same F (upd F p (.lst vs0)) := same_upd f0
  refine k (.ref p) (.lst es) _ (upd F p (.lst vs0)) H ⟨⟨s, fun a u e => ?_, fun _ _ e _ _ => e, fun _ e => e, fun g => ⟨g.1, nt_upd nt_lst g.2⟩⟩, fun q h => .inl (isOwn_set (c := .dat (.lst es)) (fun a z => z) h), ⟨⟨S.tabs.1, nt_upd nt_lst S.tabs.2⟩, fun a u e => ?_, by rw [List.length_set]; exact S.len, fun j v c h1 h2 => ?_, fun j c e => ?_, S.inj.set fun a z => z.elim⟩⟩ (.lst upd_same (r0.mono s)) hq
  · by_cases q : a = p
    · subst q; exact .inr (.inr (isOwn_at e0))
    · rw [upd_ne q] at e; exact .inl e
  · by_cases q : a = p
    · subst q; rw [upd_same] at e; rw [h0]; exact e
    · rw [upd_ne q] at e; exact S.sub a u e
  · by_cases e : i = j
    · subst e
      rw [List.getElem?_set_self hi] at h2
      cases h2
      rw [s0] at h1
      cases h1
      exact ⟨.ref p, rfl, .lst upd_same (r0.mono s)⟩
    · rw [List.getElem?_set_ne e] at h2
      exact (S.slot j v c h1 h2).mono s
  · rcases set_get e with ⟨_, rfl, _⟩ | ⟨n, e⟩
    · exact trivial
    · refine (S.own j c e).move s fun a f => ⟨?_, fun u hu _ => hu⟩
      rw [upd_ne (fun z => n (S.inj j i c _ a e e0 f (.inl z)))]
      exact ((S.own j c e).has f).1
end
end L3


/-! ## own classes: an instance is made, its fields are set -/
namespace L3
open PySem PySem.Spec PyProof.Rows L2
variable [TB : TabT]
section
variable {K : PySem.W.Frag} {W : WX}
def putD (f : Str) (d : D) : List (Str × D) → List (Str × D)
  | [] => [(f, d)]
  | (g, e) :: r => if g = f then (g, d) :: r else (g, e) :: putD f d r
theorem frep_put {F : Hp} {f : Str} {v : V} {d : D} (h : Rep K F v d) : ∀ {vs : List (Str × V)} {ds : List (Str × D)}, FRep K F vs ds → FRep K F (putF f v vs) (putD f d ds)
  | _, _, .nil => .cons h .nil
  | _, _, .cons (f := g) (v := u) (vs := vs) r t => by
    unfold putF putD
    by_cases e : g = f
    · simp only [e, if_true]
      exact .cons h t
    · simp only [e, if_false]
      exact .cons r (frep_put h t)
theorem FRep.length {F : Hp} : ∀ {vs : List (Str × V)} {ds : List (Str × D)}, FRep K F vs ds → vs.length = ds.length
  | _, _, .nil => rfl
  | _, _, .cons _ r => by rw [List.length_cons, List.length_cons, FRep.length r]
/-- self.f = e, in a method that has the object for its own -/
def wFld (C : Addr) (i : Nat) (f : Str) (we : EW) : SW := fun E τ => we τ (fun d τ1 => ∃ p dx fs, τ1[i]? = some (.own p (.obj C dx fs)) ∧ fs.length < 1000 ∧ E.nx (τ1.set i (.own p (.obj C dx (putD f d fs))))) E.ex
theorem ds_fld {C : Addr} {i : Nat} {f : Str} {t : TE} {w : EW} (hc : Cls K C) (hn : NoAttr K C f) (h : DE K W t w) : DS K W (sFld K (tVar i) t f) (wFld C i f w) := by
  refine ⟨fun σ H τ F Dn E S hw o => h.run σ H τ F _ _ E.ex S hw (fun v d τ1 F1 H1 t1 r1 ⟨p, dx, fs, e0, hl, hq⟩ => ?_) o.xto⟩
  obtain ⟨s0, f0, ob, h0, r0⟩ := own_at t1.ok e0
  cases r0 with
  | @obj _ _ vs _ r0 =>
    refine ⟨.ref p, s0, p, C, dx, vs, rfl, h0, hc, hn, by rw [r0.length]; exact hl, ?_⟩
    exact o.nx σ _ F1 _ (to_change t1 e0 (.obj (frep_put r1 r0))) hq
/-- an instance whose fields nobody looks at -/
def wMkO (C : Addr) (n : Nat) (fs : FS) (wa : AW) : EW := fun τ q e => wa τ (fun ds τ' => ds.length = n ∧ ∀ x dx, fs (.own x (.obj C dx []) :: ds.map .dat) (fun d cs' => d = .non ∧ (∃ gs, cs'[0]? = some (.own x (.obj C dx gs))) ∧ q (.oth (.ref C)) τ') noX) e
theorem reps_slots {F : Hp} : ∀ {vs : List V} {ds : List D}, Reps K F vs ds → ∀ (i : Nat) (s : Option V) (c : Cell), (vs.map some)[i]? = some s → (ds.map Cell.dat)[i]? = some c → SlotOk K F s c
  | _, _, .nil, i, s, c, h, _ => by simp at h
  | _, _, .cons r t, 0, s, c, h, h' => by
    cases h
    cases h'
    exact ⟨_, rfl, r⟩
  | _, _, .cons r t, i + 1, s, c, h, h' => reps_slots t i s c (by simpa using h) (by simpa using h')
theorem no_own_dat {ds : List D} {i : Nat} {p : Addr} {c : Cont} (h : (ds.map Cell.dat)[i]? = some (.own p c)) : False := by
  rw [List.getElem?_map] at h
  cases e : ds[i]? with
  | none => rw [e] at h; cases h
  | some d => rw [e] at h; cases h
theorem mk_has {a C dx x : Addr} {ds : List D} {i : Nat} {c : Cell} (e : (Cell.own a (.obj C dx []) :: ds.map Cell.dat)[i]? = some c) (f : Has c x) : i = 0 ∧ x = a := by
  cases i with
  | zero => cases e; exact ⟨rfl, flat_has (k := .obj C dx []) trivial f⟩
  | succ i =>
    rw [List.getElem?_cons_succ, List.getElem?_map] at e
    cases q : ds[i]? with
    | none => rw [q] at e; cases e
    | some d => rw [q] at e; cases e; exact f.elim
theorem mk_own {F H : Hp} {a C dx : Addr} {ds : List D} (fa : F a = none) (h : H a = some (.ins C dx [])) : OwnOk K F H (Cell.own a (.obj C dx []) :: ds.map Cell.dat) := fun i c e => by
  cases i with
  | zero => cases e; exact .flat trivial fa h (.obj .nil)
  | succ i =>
    rw [List.getElem?_cons_succ, List.getElem?_map] at e
    cases q : ds[i]? with
    | none => rw [q] at e; cases e
    | some d => rw [q] at e; cases e; exact trivial
theorem mk_inj {a C dx : Addr} {ds : List D} : InjOk (Cell.own a (.obj C dx []) :: ds.map Cell.dat) := fun i j c d x h1 h2 f1 f2 => by
  rw [(mk_has h1 f1).1, (mk_has h2 f2).1]
theorem mk_isOwn {a C dx x : Addr} {ds : List D} (h : IsOwn (Cell.own a (.obj C dx []) :: ds.map Cell.dat) x) : x = a := by
  obtain ⟨i, c, e, f⟩ := h
  exact (mk_has e f).2
theorem de_makeO {C : Addr} {n : Nat} {fs : FS} {t : TA} {w : AW} (c : InsTy K C) (h : DA K W t w) : DE K W (tMake C (spOf K (n + 1) fs) [] (fun _ _ _ => False) t) (wMkO C n fs w) := by
  refine ⟨fun σ H τ F Q q e S hw k x => h.run σ H τ F _ _ e S hw (fun vs ds τ' F' H' t' r ⟨hl, hf⟩ a dx ha hdx hne => ?_) x⟩
  have fa := new_not_data t'.ok ha
  have fdx := new_not_data t'.ok hdx
  have ha1 : (upd H' dx (.own a)) a = none := by rw [upd_ne (fun z => hne z.symm)]; exact ha
  have s2 : Same F' (upd (upd H' dx (.own a)) a (.ins C dx [])) := fun b o e => by
    rw [upd_ne (fun z => by rw [z, fa] at e; cases e), upd_ne (fun z => by rw [z, fdx] at e; cases e)]
    exact t'.ok.sub b o e
  refine ⟨by simp [r.length, hl], F', .own a (.obj C dx []) :: ds.map .dat, _, _, ⟨⟨tabs_new ha1 (tabs_new hdx t'.ok.tabs.1), t'.ok.tabs.2⟩, s2, by simp [r.length], fun i s cc h1 h2 => ?_, mk_own fa upd_same, mk_inj⟩, hf a dx, fun v d cs' F3 H3 x3 s3 c3 r3 ⟨ed, ⟨gs, e0⟩, hq⟩ => ?_, fun _ _ _ _ _ _ _ _ _ _ z => z⟩
  · cases i with
    | zero => cases h1; cases h2; exact rfl
    | succ i => exact reps_slots r i s cc (by simpa only [List.map_cons, List.getElem?_cons_succ, List.append_nil] using h1) (by simpa only [List.getElem?_cons_succ] using h2)
  · subst ed
    refine ⟨by cases r3; rfl, ?_⟩
    obtain ⟨f3, ob, h3, rep, _⟩ := c3.own 0 _ e0
    cases rep with
    | @obj _ _ us _ rep =>
      have e4 : Ext [] F' H' (upd F3 a (.ins C dx us)) H3 := by
        refine ⟨fun b o e => ?_, fun b o e => ?_, fun b o e _ nt => ?_, fun b e => ?_, fun z => ⟨(x3.tabs ⟨tabs_new ha1 (tabs_new hdx z.1), z.2⟩).1, nt_upd nt_ins (x3.tabs ⟨tabs_new ha1 (tabs_new hdx z.1), z.2⟩).2⟩⟩
        · rw [upd_ne (fun z => by rw [z, fa] at e; cases e)]
          exact x3.f b o e
        · by_cases z : b = a
          · subst z; exact .inr (.inl (fr_none ha))
          · rw [upd_ne z] at e
            rcases x3.new b o e with y | y | y
            · exact .inl y
            · refine .inr (.inl ?_)
              by_cases z2 : b = dx
              · rw [z2]; exact fr_none hdx
              · exact fun o' e' => y o' (by rw [upd_ne z, upd_ne z2]; exact e')
            · exact absurd (mk_isOwn y) z
        · have n1 : b ≠ a := fun z => by rw [z, ha] at e; cases e
          have n2 : b ≠ dx := fun z => by rw [z, hdx] at e; cases e
          refine x3.keep b o (by rw [upd_ne n1, upd_ne n2]; exact e) (fun y => n1 (mk_isOwn y)) nt
        · have y := x3.there b e
          by_cases n1 : b = a
          · rw [n1]; exact fr_none ha
          · by_cases n2 : b = dx
            · rw [n2]; exact fr_none hdx
            · exact fun o' e' => y o' (by rw [upd_ne n1, upd_ne n2]; exact e')
      have sub4 : Same (upd F3 a (.ins C dx us)) H3 := fun b o e => by
        by_cases z : b = a
        · subst z; rw [upd_same] at e; rw [h3]; exact e
        · rw [upd_ne z] at e; exact s3 b o e
      exact k _ _ τ' _ H3 (t'.trans (.small t'.ok e4 sub4)) (.oth (.base (.ins upd_same c.cl c.ha c.hn c.ht c.hm))) hq
end
end L3


/-! ## a lambda that is handed to a def which calls it under try -/
namespace L3
open PySem PySem.Spec PyProof.Rows L2
variable [TB : TabT]
section
variable {K : PySem.W.Frag} {W : WX}
theorem pss_ex {X : Cx} {st : List Stmt} {ι : Type} {P : ι → Prop} {t : ι → TS} (h : ∀ i, P i → PSs X st (t i)) : PSs X st (fun D σ H => ∃ i, P i ∧ (σ.length = X.N.length → t i D σ H)) :=
  ⟨fun pins s σ H D I ⟨i, hp, hq⟩ => (h i hp).run pins s σ H D I (hq I.len)⟩
/-- what a def does that calls what it is handed: "told" and what comes, or what `tell` makes of an own error -/
def toldE (K : PySem.W.Frag) (tell : Addr → List D → Prop) (Q : VK) : XK := fun cls d H' => ∃ (C : Addr) (bs : List Bool), cls = .ref C ∧ d = none ∧ tell C (bs.map D.bl) ∧
  ∀ l p, H' l = none → (upd H' l (.lst (bs.map V.bl))) p = none → Q (.ref p) (upd (upd H' l (.lst (bs.map V.bl))) p (.tup [.str "refused", .ref l, .int 0]))
def toldTT (K : PySem.W.Frag) (tell : Addr → List D → Prop) : (XK → Hp → VK → Prop) → Hp → VK → Prop := fun tl H Q => ∀ (E : XK) (Q' : VK),
  (∀ cls d H', toldE K tell Q cls d H' → E cls d H') → (∀ v H', (∀ p, H' p = none → Q (.ref p) (upd H' p (.tup [.str "told", v]))) → Q' v H') → tl E H Q'
def wTold (tell : Addr → List D → Prop) (w : EW) : EW := fun τ q _ => w τ (fun d τ' => q (.tup [.str "told", d]) τ') (fun x τ' => x.fs = [] ∧ ∃ bs : List Bool, tell x.cls (bs.map D.bl) ∧ q (.tup [.str "refused", .lst (bs.map D.bl), .int 0]) τ')
theorem reps_bls {F : Hp} : ∀ {bs : List Bool}, Reps K F (bs.map V.bl) (bs.map D.bl)
  | [] => .nil
  | b :: bs => .cons (.bl b) (reps_bls (bs := bs))
theorem de_told {tell : Addr → List D → Prop} {t : XK → TE} {w : EW} (h : ∀ E : XK, DE K (fun cls d _ H => E cls d H) (t E) w) : DE K W (LamX.tLam TB.T (toldTT K tell) t) (wTold tell w) := by
  refine ⟨fun σ H τ F Q q e S hw k x => ⟨S.tabs.1, fun H1 hx ht E Q' hE hQ => ?_⟩⟩
  have s1 : Same F H1 := fun a o e => hx a o (S.sub a o e) (S.tabs.2 a o e)
  have x1 : Ext [] F H F H1 := ⟨Same.refl F, fun _ _ e => .inl e, fun a o e _ nt => hx a o e nt, fun a fr o e nt => fr o (hx a o e nt) nt, fun g => ⟨ht, g.2⟩⟩
  have t1 : To K F H σ τ F H1 τ := .small S x1 s1
  refine (h E).run σ H1 τ F Q' _ _ t1.ok hw (fun v d τ' F' H' t' r hq => hQ v H' fun p hp => ?_) (fun y cls dx τ' F' H' t' r hq => hE cls dx H' ?_)
  · obtain ⟨x1, x2⟩ := new_ext (o := .tup [.str "told", v]) t'.ok.sub hp
    exact k _ (.tup [.str "told", d]) τ' _ _ ((t1.trans t').trans (.small t'.ok x1 x2)) (.tup (.inl (.inl upd_same)) (.cons (.str _) (.cons (r.mono (new_same t'.ok.sub hp)) .nil))) hq
  · obtain ⟨hf, bs, ht, hq⟩ := hq
    have dn : dx = none := by
      rcases r.f with z | z
      · exact z.2
      · exact absurd hf z.1
    refine ⟨y.cls, bs, r.c, dn, ht, fun l p hl hp => ?_⟩
    obtain ⟨x1, x2⟩ := new_ext (o := .lst (bs.map V.bl)) t'.ok.sub hl
    have t2 := (t1.trans t').trans (.small t'.ok x1 x2)
    obtain ⟨x3, x4⟩ := new_ext (o := .tup [.str "refused", .ref l, .int 0]) x2 hp
    have sF := new_same (o := .tup [.str "refused", .ref l, .int 0]) x2 hp
    exact k _ (.tup [.str "refused", .lst (bs.map D.bl), .int 0]) τ' _ _ (t2.trans (.small t2.ok x3 x4)) (.tup (.inl (.inl upd_same)) (.cons (.str _) (.cons (.lst (sF _ _ upd_same) reps_bls) (.cons (.int _) .nil)))) hq
end
end L3

/-! ## the frame of a law that hands lambdas about -/
namespace L3
open PySem PySem.Spec PyProof.Rows L2
variable [TB : TabT]
theorem pe_told {X : Cx} {st : Stmt} {x a : Str} {g c P : Addr} {fd : FuncData} {k : Nat} {Ng : List Str} {tell : Addr → List D → Prop} {params : Arguments} {body : Expr} {scope : Scope} {t : XK → TE} {p lpos pos : Pos}
    (F : Fun X.K x x st g fd) (hb : L2.Binds X.K fd [a] []) (hg : Gl X x) (hm : X.mg x = some (.ref g)) (Sg : FnScope Ng [a] (defScope st)) (hNg : Ng[0]? = some a) (hva : Vis (defScope st) a)
    (hG : ∀ cdv, LamX.GivesTo X Ng x (defScope st) g cdv (defBody st) a (X.env.qual ++ "<lambda>") (toldTT X.K tell)) (hT : LamX.TabB X.base X.mg c P) (hcode : X.env.code = .ref c)
    (hmT : (P, X.env.qual ++ Str.ofString "<lambda>") ∈ TB.T) (hu : ∀ p ∈ TB.T, p.1 = P → p.2 = X.env.qual ++ Str.ofString "<lambda>") (hr : Room (k + 2) X.A) (L : LamX.LamS X.env.scope scope) (hdef : defaultsOf params X.env = ([], []))
    (hbind : ∀ (q : Str) (cl : List (Str × Addr)) (pm cv ctv : Value), bindArgs (PySem.W.kla_fn (Str.ofString "<lambda>") q params body scope cl pm cv ctv) {} = pure [])
    (hbody : ∀ (A : Around) (outer : List Env) (s : Shared) (H : Hp) (E : XK) (f c' : Addr), Room k (A.deeper (LamX.lamEnv X scope s.heap.objs.size f c')) → PE (LamX.lamCx X A outer s H E scope f c') body (t E))
    (h1 : (x == Str.ofString "__debug__") = false := by decide) (h2 : (a == Str.ofString "__debug__") = false := by decide) (h3 : (a == Str.ofString "__classdict__") = false := by decide) :
    PE X (.Call (.Name x p) [.Lambda params body scope lpos] [] pos) (LamX.tLam TB.T (toldTT X.K tell) t) := by
  obtain ⟨oc, od, kV, doc, pm, an, cdv, ct, osl, rfl, lk, hcg⟩ := F.ex
  exact LamX.pe_lamcall hg hm F.kp lk hcg hb Sg hNg hva (hG cdv) hT hcode hmT hu hr L hdef hbind hbody h1 h2 h3
/-- a def whose code object is known -/
theorem def_okC {P : Program} {w : World} {K : PySem.W.Frag} {mg : Str → Option Value} {base : Heap} {x qual : Str} {st : Stmt} {f : Addr} {N ps : List Str} {k : Nat} {fs : FS} {wb : SW} {kV doc pm cdv ct oc : Value} {an od : Option Addr} {osl : Array (Option Value)}
    (lk : K.lookup f = some ⟨oc, od, .func (PySem.W.fnOf x qual (defArgs st) (defBody st) (defScope st) .none kV doc pm an cdv ct), osl⟩) (hcd : PySem.W.codeIn K cdv qual = true) (S : FnScope N ps (defScope st))
    (hw : ∀ cs q e, cs.length = ps.length → fs cs q e → wb { nx := fun τ => Keeps cs τ ∧ q .non (ends cs τ), rt := fun d τ => Keeps cs τ ∧ q d (ends cs τ), rf := fun _ _ => False, bk := fun _ => False, ct := fun _ => False, ex := fun x τ => Keeps cs τ ∧ e x (ends cs τ) } (cs ++ List.replicate (N.length - ps.length) .any))
    (hb : ∀ (A : Around) (outer : List Env) (s : Shared) (H : Hp) (E : XK), Room k (A.deeper (envOfC qual (defScope st) s.heap.objs.size f cdv)) → Takes (cxOf (L2.CX P w) P w K mg base N qual (defScope st) f cdv A outer s H E) (fun cls d _ H => E cls d H) →
      ∃ t, PSs (cxOf (L2.CX P w) P w K mg base N qual (defScope st) f cdv A outer s H E) (defBody st) t ∧ DS K (fun cls d _ H => E cls d H) t wb) :
    FnOk P w K mg base (L2.CX P w) (k + 1) f (PySem.W.fnOf x qual (defArgs st) (defBody st) (defScope st) .none kV doc pm an cdv ct) ps (spOf K ps.length fs) := by
  refine fn_of lk hcd S (fun vs H Q E h => h.1) (fun A outer s H vs Q E hr h => ?_)
  obtain ⟨t, h1, h2⟩ := hb A outer s H E hr (takes_of rfl rfl rfl rfl)
  refine ⟨t, h1, ?_⟩
  obtain ⟨hl, F, cs, q, e, S0, hf, kq, ke⟩ := h
  obtain ⟨lcs, S1⟩ := s_ok (N := N) S0 hl
  refine h2.run _ H _ F _ _ S1 (hw cs q e lcs hf) ⟨fun σ' τ' F' H' u ⟨k, hq⟩ => ?_, fun _ _ _ _ _ z => z, fun _ _ _ _ _ z => z, fun v d τ' F' H' u r ⟨k, hq⟩ => ?_, fun σ' x cls dx τ' F' H' u r ⟨k, hq⟩ => ?_, ?_, fun _ _ _ _ _ _ _ _ z => z.elim⟩
  · exact kq .non .non _ F' H' u.ext.app u.ok.sub (cs_ok k u.ok.own u.ok.inj u.grow.app) .non hq
  · exact kq v d _ F' H' u.ext.app u.sub (cs_ok k u.own u.inj u.grow.app) r hq
  · exact ke x cls dx _ F' H' u.ext.app u.ok.sub (cs_ok k u.ok.own u.ok.inj u.grow.app) r hq
  · exact fun _ _ _ _ _ _ _ _ z => False.elim z
end L3

/-! ## lcm, max -/
namespace L3
open PySem PySem.Spec PyProof.Rows L2
variable [TB : TabT]
section
variable {K : PySem.W.Frag} {W : WX}
def rLcm : List V → Hp → VK → Prop := fun vs H Q => ∃ a b : Int, vs = [.int a, .int b] ∧ a.natAbs < 2 ^ 64 ∧ b.natAbs < 2 ^ 64 ∧ Q (.int ((Nat.lcm a.natAbs b.natAbs : Nat) : Int)) H
theorem cr_lcm {X : Cx} : CallR X (.builtin "math.lcm") rLcm := by
  intro pins s σ H vs us Q I r h
  obtain ⟨a, b, rfl, ha, hb, q⟩ := h
  obtain ⟨t, u, rfl⟩ := Vals.int2 r
  exact PySem.W.mc_lcm ha hb fun _ => ⟨.int _, H, I.tok (s.toks + 1), ⟨s.toks, rfl⟩, q⟩
def gLcm : List D → (D → Prop) → Prop := fun ds q => ∃ i j : Int, ds = [.int i, .int j] ∧ i.natAbs < 2 ^ 64 ∧ j.natAbs < 2 ^ 64 ∧ q (.int ((Nat.lcm i.natAbs j.natAbs : Nat) : Int))
theorem o_lcm : OpN K rLcm gLcm := by
  rintro F H xs ds q Q s r ⟨i, j, rfl, hi, hj, hq⟩ k
  obtain ⟨v, v', rfl, r1, r2⟩ := r.two
  exact ⟨i, j, by rw [r1.int_of, r2.int_of], hi, hj, k _ _ F H (.refl _ _ _) s (.int _) hq⟩
def mxI (a b : Int) : Int := if b > a then b else a
def rMax2 : List V → Hp → VK → Prop := fun xs H Q => ∃ i j, xs = [V.int i, V.int j] ∧ Q (V.int (if j > i then j else i)) H
def gMax2 : List D → (D → Prop) → Prop := fun ds q => ∃ i j : Int, ds = [.int i, .int j] ∧ q (.int (mxI i j))
theorem o_max2 : OpN K rMax2 gMax2 := by
  rintro F H xs ds q Q s r ⟨i, j, rfl, hq⟩ k
  obtain ⟨v, v', rfl, r1, r2⟩ := r.two
  exact ⟨i, j, by rw [r1.int_of, r2.int_of], k _ _ F H (.refl _ _ _) s (.int _) hq⟩
theorem nuMax3_int (a b c : Int) : nuMax3 (.int a) (.int b) (.int c) = some (.int (mxI (mxI a b) c)) := by
  have two : ∀ x y : Int, nuMax2 (.int x) (.int y) = some (.int (mxI x y)) := fun x y => by
    show Option.map (fun c => if c = true then V.int y else V.int x) (nuLt (.int x) (.int y)) = _
    have : nuLt (.int x) (.int y) = some (decide (x < y)) := rfl
    rw [this]
    unfold mxI
    by_cases h : x < y
    · simp [h]
    · simp [h]
  show (nuMax2 (.int a) (.int b)).bind _ = _
  rw [two]
  exact two _ _
def gMax3 : List D → (D → Prop) → Prop := fun ds q => ∃ i j l : Int, ds = [.int i, .int j, .int l] ∧ q (.int (mxI (mxI i j) l))
theorem o_max3 : OpN K (rNuC3 nuMax3) gMax3 := by
  rintro F H xs ds q Q s r ⟨i, j, l, rfl, hq⟩ k
  cases r with
  | cons r1 r =>
    obtain ⟨v, v', rfl, r2, r3⟩ := r.two
    exact ⟨.int i, .int j, .int l, _, by rw [r1.int_of, r2.int_of, r3.int_of], nuMax3_int i j l, k _ _ F H (.refl _ _ _) s (.int _) hq⟩
end
end L3

/-! ## instances as data, errors with a field -/
namespace L3
open PySem PySem.Spec PyProof.Rows L2
variable [TB : TabT]
/-- an error that is made, and a field of it read -/
def tMkF (K : PySem.W.Frag) (t : L2.St → Hp → XK → Prop) (f : Str) : TE := fun σ H Q => t σ H fun cls d H1 => ∃ (C dd : Addr) (fs : List (Str × V)) (v : V), cls = .ref C ∧ d = some dd ∧ H1 dd = some (.xd fs) ∧ L2.XfC K C ∧ PySem.W.findIn K (.ref C) f = some none ∧ fs.lookup f = some v ∧ Q v H1
theorem pe_mkf {X : Cx} {e : Expr} {t : L2.St → Hp → XK → Prop} {n : Str} {pos : Pos} (he : PMk X e t) (hb : attributeBase e n X.env (eval e X.env) = eval e X.env := by rfl) : PE X (.Attribute e n pos) (tMkF X.K t n) := by
  refine ⟨fun pins s σ H Q I h => ?_⟩
  refine attr_of hb (thn (he pins s σ H _ I h) fun u s1 hh => ?_)
  obtain ⟨a, oe, vs, sI, H', cls, d, rfl, J, k, hne, ha, hz, hd, h1, na, os, ag, r, q⟩ := hh
  obtain ⟨C, dd, fs, v, rfl, rfl, ea, T, hno, l, q⟩ := q
  have J2 : Inv X pins σ H' s1 := J.call' (ch := []) os (Un.kept k) (J.hok.kept k) ag (fun b z => absurd z (by simp))
  have hx : ObjOk X.prog X.w H' s1.heap dd (.xd fs) := J2.hok dd _ ea
  obtain ⟨mA, hns, hr⟩ := hx
  obtain ⟨od, ho, hl⟩ := lookIn_ns hns
  obtain ⟨u, hu, ru⟩ := RelO.some_of (v := v) (o := mA n) (by rw [← l]; exact hr n)
  have I4 : PySem.W.InstAt s1.heap a oe C (some od) := ⟨ha, hz.1, by unfold PySem.W.notCls; rw [hd] <;> rfl, by rw [hz.2]; exact ho⟩
  exact HandSPX.exc_get J2.kIn I4 T.ga T.gg T.exC (PySem.W.findObj_own T.hdC hno rfl (by rw [hl, hu])) (handed_of ru) ⟨v, H', J2.tok _, ru, q⟩
/-- isinstance(e, c), e the caught error, which has a dict -/
def rIsE1 (K : PySem.W.Frag) (D a : Addr) (d : Option Addr) : List V → Hp → VK → Prop := fun xs H Q => ∃ (c : V) (cv : Value) (b : Bool) (dd : Addr) (fs : List (Str × V)), xs = [.ref a, c] ∧ (∀ u, RelV c u → u = cv) ∧ PySem.W.kitOne K (.ref D) cv = some b ∧ d = some dd ∧ H dd = some (.xd fs) ∧ Q (.bl b) H
theorem call_isE1 {X : Cx} {a D : Addr} {d : Option Addr} {oe : Obj} {pn : List (Addr × Obj)} (C : ExcC X.K D) (hz : Zc (.ref D) d oe) (hf : ∃ vs, oe.data = .fields vs) : CallR (X.suite a ((a, oe) :: pn)) (.builtin "isinstance") (rIsE1 X.K D a d) := by
  intro pins s σ H xs us Q I r h
  obtain ⟨c, cv, b, dd, fs, rfl, hcv, e, rfl, hdd, q⟩ := h
  cases r with
  | cons rx rr =>
    cases rr with
    | cons rt rr =>
      cases rr
      cases rx
      have ec := hcv _ rt
      subst ec
      obtain ⟨hget, _⟩ := I.pin (a, oe) (List.mem_append.mpr (.inl List.mem_cons_self))
      obtain ⟨vs, hv⟩ := hf
      have hx : ObjOk X.prog X.w H s.heap dd (.xd fs) := I.hok dd _ hdd
      obtain ⟨mA, hns, hr⟩ := hx
      obtain ⟨od, ho, hl⟩ := lookIn_ns hns
      have J : PySem.W.InstAt s.heap a oe D (some od) := ⟨hget, hz.1, by unfold PySem.W.notCls; rw [hv] <;> rfl, by rw [hz.2]; exact ho⟩
      have hcl : (PySem.W.clsIn X.K D).isSome = true := by
        obtain ⟨cd, hc, _⟩ := PySem.W.any_some C.hd
        rw [hc]
        rfl
      exact PySem.W.kia_one (PySem.W.kitx_exc hcl C.hg C.hk C.hs C.ha C.hn C.ht C.hm) I.kIn J e (fun z => nomatch z) fun tk => ⟨.bl b, H, I.kept (t' := tk) fun _ _ z => z, rfl, q⟩
section
variable {K : PySem.W.Frag} {W : WX}
theorem FRep.lookup {F : Hp} {f : Str} {d : D} : ∀ {vs : List (Str × V)} {ds : List (Str × D)}, FRep K F vs ds → ds.lookup f = some d → ∃ v, vs.lookup f = some v ∧ Rep K F v d
  | _, _, .nil, e => by simp at e
  | _, _, .cons (f := g) (v := u) r t, e => by
    unfold List.lookup at e ⊢
    cases h : f == g with
    | true =>
      rw [h] at e
      cases e
      exact ⟨u, rfl, r⟩
    | false =>
      rw [h] at e
      exact FRep.lookup t e
/-- e.f of an instance -/
def wAttr (C : Addr) (f : Str) (we : EW) : EW := fun τ q e => we τ (fun d τ' => ∃ gs v, d = .ins C gs ∧ gs.lookup f = some v ∧ q v τ') e
theorem de_fld {C : Addr} {f : Str} {t : TE} {w : EW} (hc : Cls K C) (hn : NoAttr K C f) (h : DE K W t w) : DE K W (tFld K t f) (wAttr C f w) := by
  refine ⟨fun σ H τ F Q q e S hw k x => h.run σ H τ F _ _ e S hw (fun v d τ1 F1 H1 t1 r1 ⟨gs, y, ed, el, hq⟩ => ?_) x⟩
  subst ed
  cases r1 with
  | ins ha hr =>
    obtain ⟨u, e1, r2⟩ := hr.lookup el
    exact ⟨_, _, _, _, u, rfl, t1.ok.sub _ _ ha, hc, hn, e1, k u y τ1 F1 H1 t1 r2 hq⟩
/-- an instance that is made, and is data from then on -/
def wMkI (C : Addr) (n : Nat) (fs : FS) (wa : AW) : EW := fun τ q e => wa τ (fun ds τ' => ds.length = n ∧ ∀ x dx, fs (.own x (.obj C dx []) :: ds.map .dat) (fun d cs' => d = .non ∧ ∃ gs, cs'[0]? = some (.own x (.obj C dx gs)) ∧ q (.ins C gs) τ') (fun y _ => e y τ')) e
theorem passF {X : Cx} {E : XK} (tk : Takes X (fun cls d _ H => E cls d H)) : Passes (L2.CX X.prog X.w) X E := fun pins σ H s e s' I c => passAt tk σ pins H s e s' I c
theorem ext_make {F' H' F3 H3 : Hp} {a dx C : Addr} {cs : List Cell} (ha : H' a = none) (hdx : H' dx = none) (hne : dx ≠ a) (own0 : ∀ p, IsOwn cs p → p = a) (x3 : Ext cs F' (upd (upd H' dx (.own a)) a (.ins C dx [])) F3 H3) : Ext [] F' H' F3 H3 := by
  have ha1 : (upd H' dx (.own a)) a = none := by rw [upd_ne (fun z => hne z.symm)]; exact ha
  have fr : ∀ b, Fr (upd (upd H' dx (.own a)) a (.ins C dx [])) b → Fr H' b := fun b y => by
    by_cases n1 : b = a
    · rw [n1]; exact fr_none ha
    · by_cases n2 : b = dx
      · rw [n2]; exact fr_none hdx
      · exact fun o' e' => y o' (by rw [upd_ne n1, upd_ne n2]; exact e')
  refine ⟨x3.f, fun b o e => ?_, fun b o e _ nt => ?_, fun b e => fr b (x3.there b e), fun z => x3.tabs ⟨tabs_new ha1 (tabs_new hdx z.1), z.2⟩⟩
  · rcases x3.new b o e with y | y | y
    · exact .inl y
    · exact .inr (.inl (fr b y))
    · rw [own0 b y]; exact .inr (.inl (fr_none ha))
  · have n1 : b ≠ a := fun z => by rw [z, ha] at e; cases e
    have n2 : b ≠ dx := fun z => by rw [z, hdx] at e; cases e
    exact x3.keep b o (by rw [upd_ne n1, upd_ne n2]; exact e) (fun y => n1 (own0 b y)) nt
theorem de_makeI {C : Addr} {n : Nat} {fs : FS} {E : XK} {t : TA} {w : AW} (h : DA K (fun cls d _ H => E cls d H) t w) : DE K (fun cls d _ H => E cls d H) (tMake C (spOf K (n + 1) fs) [] E t) (wMkI C n fs w) := by
  refine ⟨fun σ H τ F Q q e S hw k x => h.run σ H τ F _ _ e S hw (fun vs ds τ' F' H' t' r ⟨hl, hf⟩ a dx ha hdx hne => ?_) x⟩
  have fa := new_not_data t'.ok ha
  have fdx := new_not_data t'.ok hdx
  have ha1 : (upd H' dx (.own a)) a = none := by rw [upd_ne (fun z => hne z.symm)]; exact ha
  have s2 : Same F' (upd (upd H' dx (.own a)) a (.ins C dx [])) := fun b o e => by
    rw [upd_ne (fun z => by rw [z, fa] at e; cases e), upd_ne (fun z => by rw [z, fdx] at e; cases e)]
    exact t'.ok.sub b o e
  have own1 : ∀ p, IsOwn (Cell.own a (.obj C dx []) :: ds.map Cell.dat) p → p = a := fun p y => mk_isOwn y
  refine ⟨by simp [r.length, hl], F', .own a (.obj C dx []) :: ds.map .dat, _, _, ⟨⟨tabs_new ha1 (tabs_new hdx t'.ok.tabs.1), t'.ok.tabs.2⟩, s2, by simp [r.length], fun i s cc h1 h2 => ?_, mk_own fa upd_same, mk_inj⟩, hf a dx, fun v d cs' F3 H3 x3 s3 c3 r3 ⟨ed, gs, e0, hq⟩ => ?_, fun y cls dx' cs' F3 H3 x3 s3 c3 r3 hq => ?_⟩
  · cases i with
    | zero => cases h1; cases h2; exact rfl
    | succ i => exact reps_slots r i s cc (by simpa only [List.map_cons, List.getElem?_cons_succ, List.append_nil] using h1) (by simpa only [List.getElem?_cons_succ] using h2)
  · subst ed
    refine ⟨by cases r3; rfl, ?_⟩
    obtain ⟨f3, ob, h3, rep, _⟩ := c3.own 0 _ e0
    cases rep with
    | @obj _ _ us _ rep =>
      have e5 := ext_make ha hdx hne own1 x3
      have s6 : Same F3 (upd F3 a (.ins C dx us)) := fun b o e => by rw [upd_ne (fun z => by rw [z, f3] at e; cases e)]; exact e
      have e4 : Ext [] F' H' (upd F3 a (.ins C dx us)) H3 := by
        refine ⟨fun b o e => s6 b o (e5.f b o e), fun b o e => ?_, e5.keep, e5.there, fun z => ⟨(e5.tabs z).1, nt_upd nt_ins (e5.tabs z).2⟩⟩
        by_cases z : b = a
        · rw [z]; exact .inr (.inl (fr_none ha))
        · rw [upd_ne z] at e
          exact e5.new b o e
      have sub4 : Same (upd F3 a (.ins C dx us)) H3 := fun b o e => by
        by_cases z : b = a
        · subst z; rw [upd_same] at e; rw [h3]; exact e
        · rw [upd_ne z] at e; exact s3 b o e
      exact k _ _ τ' _ H3 (t'.trans (.small t'.ok e4 sub4)) (.ins upd_same (rep.mono s6)) hq
  · exact x y cls dx' τ' F3 H3 (t'.trans (.small t'.ok (ext_make ha hdx hne own1 x3) s3)) r3 hq
/-! ### an error with one field -/
def spX1 (K : PySem.W.Frag) (C : Addr) (f : Str) : Sp := fun vs H Q _ => ∃ (a : Addr) (v : V), vs = [.ref a, v] ∧ H a = some (exo a C none) ∧ ∀ dx, H dx = none → dx ≠ a → Q .non (upd (upd H dx (exd dx [(f, v)])) a (exo a C (some dx)))
theorem exc1_ok {P : Program} {w : World} {mg : Str → Option Value} {base : Heap} {x qual f : Str} {st : Stmt} {fa C : Addr} {fd : FuncData} {p1 p2 p3 p4 : Pos} (Fn : Fun K x qual st fa fd) (S : FnScope ["self", f] ["self", f] (defScope st))
    (hb : defBody st = [.Assign [.Attribute (.Name "self" p1) f p2] (.Name f p3) p4]) (hf : ("self" : Str) ≠ f)
    (hs : ∀ X : Cx, swapsWith (.Name f p3) (some (.Attribute (.Name "self" p1) f p2)) p4.line X.env = pure false) (T : OexC K C) (hno : PySem.W.findIn K (.ref C) f = some none)
    (hp : ∀ (cdv : Value) (A : Around) (outer : List Env) (s : Shared) (H : Hp) (E : XK), PE (cxOf (L2.CX P w) P w K mg base ["self", f] qual (defScope st) fa cdv A outer s H E) (.Name "self" p1) (tVar 0) ∧ PE (cxOf (L2.CX P w) P w K mg base ["self", f] qual (defScope st) fa cdv A outer s H E) (.Name f p3) (tVar 1)) :
    FnOk P w K mg base (L2.CX P w) 1 fa fd ["self", f] (spX1 K C f) := by
  refine Fn.okX S (fun vs H Q E ⟨a, v, e, _⟩ => by rw [e]; rfl) (fun cdv A outer s H vs Q E hr h => ?_)
  obtain ⟨h0, h1⟩ := hp cdv A outer s H E
  obtain ⟨a, v, rfl, ha, hq⟩ := h
  rw [hb]
  refine ⟨_, pss_one (ps_ost (hs := hs _) h0 h1), ?_⟩
  exact ⟨v, rfl, .ref a, rfl, a, C, rfl, T, hno, .inl ⟨ha, fun dx h1 h2 => hq dx h1 h2⟩⟩
def wRaise1 (C : Addr) (f : Str) (we : EW) : SW := fun E τ => we τ (fun d τ' => E.ex ⟨C, [(f, d)]⟩ τ') E.ex
theorem del_back {H1 : Hp} {a d C : Addr} {fs : List (Str × V)} (ha : H1 a = none) (hda : d ≠ a) : upd (del (upd (upd (upd H1 a (exo a C none)) d (exd d fs)) a (exo a C (some d))) a) d (.xd fs) = upd H1 d (.xd fs) := by
  funext b
  by_cases h1 : b = d
  · rw [h1, upd_same, upd_same]
  · rw [upd_ne h1, upd_ne h1]
    by_cases h2 : b = a
    · rw [h2, del_same, ha]
    · rw [del_ne h2, upd_ne h2, upd_ne h1, upd_ne h2]
/-- what stands behind the making of such an error -/
theorem mk1_run {C : Addr} {f : Str} {v : V} {d : D} {F H : Hp} {σ : L2.St} {τ : List Cell} {Q : XK} (S : SOk K F H σ τ) (r : Rep K F v d)
    (h : ∀ dx, To K F H σ τ F (upd H dx (.xd [(f, v)])) τ → Q (.ref C) (some dx) (upd H dx (.xd [(f, v)]))) :
    [v].length ≤ 1000 ∧ ∀ a, H a = none → spX1 K C f (.ref a :: ([v] ++ [])) (upd H a (exo a C none))
      (fun u H2 => u = .non ∧ ∃ (d : Addr) (fs : List (Str × V)), H2 a = some (exo a C (some d)) ∧ H2 d = some (exd d fs) ∧ H d = none ∧ Q (.ref C) (some d) (upd (del H2 a) d (.xd fs))) (fun _ _ _ => False) := by
  refine ⟨by simp, fun a ha => ⟨a, v, rfl, upd_same, fun dx hd hne => ⟨rfl, dx, [(f, v)], upd_same, ?_, ?_, ?_⟩⟩⟩
  · rw [upd_ne hne, upd_same]
  · rw [upd_ne hne] at hd; exact hd
  · rw [del_back ha hne]
    rw [upd_ne hne] at hd
    refine h dx (.small S (Ext.laid0 hd) fun b o e => ?_)
    rw [upd_ne (fun z => by rw [z, new_not_data S hd] at e; cases e)]
    exact S.sub b o e
theorem ds_raise1 {C : Addr} {f : Str} {t : TE} {w : EW} (h : DE K W t w) : DS K W (fun _ σ H => tMkO C (spX1 K C f) [] (tCons t tNil) σ H fun cls d H' => W cls d σ H') (wRaise1 C f w) := by
  refine ⟨fun σ H τ F Dn E S hw o => h.run σ H τ F _ _ E.ex S hw (fun v d τ1 F1 H1 t1 r1 hq => ?_) o.xto⟩
  refine mk1_run (C := C) (f := f) (Q := fun cls d H' => W cls d σ H') t1.ok r1 fun dx t2 => ?_
  exact o.ex σ ⟨C, [(f, d)]⟩ _ (some dx) τ1 F1 _ (t1.trans t2) ⟨rfl, .inr ⟨by simp, dx, _, rfl, upd_same, .cons r1 .nil⟩⟩ hq
/-- the field of an error that is made -/
def wMkF (f : Str) (we : EW) : EW := fun τ q e => we τ q e
theorem de_mkf {C : Addr} {f : Str} {t : TE} {w : EW} (T : L2.XfC K C) (hno : PySem.W.findIn K (.ref C) f = some none) (h : DE K W t w) : DE K W (tMkF K (tMkO C (spX1 K C f) [] (tCons t tNil)) f) (wMkF f w) := by
  refine ⟨fun σ H τ F Q q e S hw k x => h.run σ H τ F _ _ e S hw (fun v d τ1 F1 H1 t1 r1 hq => ?_) x⟩
  refine mk1_run (C := C) (f := f) (Q := fun cls d H1 => ∃ (C dd : Addr) (fs : List (Str × V)) (v : V), cls = .ref C ∧ d = some dd ∧ H1 dd = some (.xd fs) ∧ L2.XfC K C ∧ PySem.W.findIn K (.ref C) f = some none ∧ fs.lookup f = some v ∧ Q v H1) t1.ok r1 fun dx t2 => ?_
  refine ⟨C, dx, _, v, rfl, rfl, upd_same, T, hno, by simp [List.lookup], ?_⟩
  exact k v d τ1 F1 _ (t1.trans t2) r1 hq
/-! ### what a def does that calls what it is handed, and an error with a field comes -/
def toldE1 (K : PySem.W.Frag) (f : Str) (tell : Addr → List D → Prop) (Q : VK) : XK := fun cls d H' => ∃ (C dd : Addr) (vs : List (Str × V)) (v : V) (bs : List Bool), cls = .ref C ∧ d = some dd ∧ H' dd = some (.xd vs) ∧ vs.lookup f = some v ∧ tell C (bs.map D.bl) ∧
  ∀ l p, H' l = none → (upd H' l (.lst (bs.map V.bl))) p = none → Q (.ref p) (upd (upd H' l (.lst (bs.map V.bl))) p (.tup [.str "refused", .ref l, v]))
def toldTT1 (K : PySem.W.Frag) (f : Str) (tell : Addr → List D → Prop) : (XK → Hp → VK → Prop) → Hp → VK → Prop := fun tl H Q => ∀ (E : XK) (Q' : VK),
  (∀ cls d H', toldE1 K f tell Q cls d H' → E cls d H') → (∀ v H', (∀ p, H' p = none → Q (.ref p) (upd H' p (.tup [.str "told", v]))) → Q' v H') → tl E H Q'
def wTold1 (f : Str) (tell : Addr → List D → Prop) (w : EW) : EW := fun τ q _ => w τ (fun d τ' => q (.tup [.str "told", d]) τ') (fun x τ' => ∃ v, x.fs = [(f, v)] ∧ ∃ bs : List Bool, tell x.cls (bs.map D.bl) ∧ q (.tup [.str "refused", .lst (bs.map D.bl), v]) τ')
theorem de_told1 {f : Str} {tell : Addr → List D → Prop} {t : XK → TE} {w : EW} (h : ∀ E : XK, DE K (fun cls d _ H => E cls d H) (t E) w) : DE K W (LamX.tLam TB.T (toldTT1 K f tell) t) (wTold1 f tell w) := by
  refine ⟨fun σ H τ F Q q e S hw k x => ⟨S.tabs.1, fun H1 hx ht E Q' hE hQ => ?_⟩⟩
  have s1 : Same F H1 := fun a o e => hx a o (S.sub a o e) (S.tabs.2 a o e)
  have x1 : Ext [] F H F H1 := ⟨Same.refl F, fun _ _ e => .inl e, fun a o e _ nt => hx a o e nt, fun a fr o e nt => fr o (hx a o e nt) nt, fun g => ⟨ht, g.2⟩⟩
  have t1 : To K F H σ τ F H1 τ := .small S x1 s1
  refine (h E).run σ H1 τ F Q' _ _ t1.ok hw (fun v d τ' F' H' t' r hq => hQ v H' fun p hp => ?_) (fun y cls dx τ' F' H' t' r hq => hE cls dx H' ?_)
  · obtain ⟨x1, x2⟩ := new_ext (o := .tup [.str "told", v]) t'.ok.sub hp
    exact k _ (.tup [.str "told", d]) τ' _ _ ((t1.trans t').trans (.small t'.ok x1 x2)) (.tup (.inl (.inl upd_same)) (.cons (.str _) (.cons (r.mono (new_same t'.ok.sub hp)) .nil))) hq
  · obtain ⟨d, hf, bs, ht, hq⟩ := hq
    rcases r.f with z | ⟨_, dd, vs, rfl, hd, fr⟩
    · rw [hf] at z; cases z.1
    rw [hf] at fr
    obtain ⟨v, e1, rv⟩ := fr.lookup (f := f) (d := d) (by simp [List.lookup])
    refine ⟨y.cls, dd, vs, v, bs, r.c, rfl, hd, e1, ht, fun l p hl hp => ?_⟩
    obtain ⟨x1, x2⟩ := new_ext (o := .lst (bs.map V.bl)) t'.ok.sub hl
    have sL := new_same (o := .lst (bs.map V.bl)) t'.ok.sub hl
    have t2 := (t1.trans t').trans (.small t'.ok x1 x2)
    obtain ⟨x3, x4⟩ := new_ext (o := .tup [.str "refused", .ref l, v]) x2 hp
    have sF := new_same (o := .tup [.str "refused", .ref l, v]) x2 hp
    exact k _ (.tup [.str "refused", .lst (bs.map D.bl), d]) τ' _ _ (t2.trans (.small t2.ok x3 x4)) (.tup (.inl (.inl upd_same)) (.cons (.str _) (.cons (.lst (sF _ _ upd_same) reps_bls) (.cons ((rv.mono sL).mono sF) .nil)))) hq
end
theorem pe_toldG {TT : (XK → Hp → VK → Prop) → Hp → VK → Prop} {X : Cx} {st : Stmt} {x a : Str} {g c P : Addr} {fd : FuncData} {k : Nat} {Ng : List Str} {params : Arguments} {body : Expr} {scope : Scope} {t : XK → TE} {p lpos pos : Pos}
    (F : Fun X.K x x st g fd) (hb : L2.Binds X.K fd [a] []) (hg : Gl X x) (hm : X.mg x = some (.ref g)) (Sg : FnScope Ng [a] (defScope st)) (hNg : Ng[0]? = some a) (hva : Vis (defScope st) a)
    (hG : ∀ cdv, LamX.GivesTo X Ng x (defScope st) g cdv (defBody st) a (X.env.qual ++ "<lambda>") TT) (hT : LamX.TabB X.base X.mg c P) (hcode : X.env.code = .ref c)
    (hmT : (P, X.env.qual ++ Str.ofString "<lambda>") ∈ TB.T) (hu : ∀ p ∈ TB.T, p.1 = P → p.2 = X.env.qual ++ Str.ofString "<lambda>") (hr : Room (k + 2) X.A) (L : LamX.LamS X.env.scope scope) (hdef : defaultsOf params X.env = ([], []))
    (hbind : ∀ (q : Str) (cl : List (Str × Addr)) (pm cv ctv : Value), bindArgs (PySem.W.kla_fn (Str.ofString "<lambda>") q params body scope cl pm cv ctv) {} = pure [])
    (hbody : ∀ (A : Around) (outer : List Env) (s : Shared) (H : Hp) (E : XK) (f c' : Addr), Room k (A.deeper (LamX.lamEnv X scope s.heap.objs.size f c')) → PE (LamX.lamCx X A outer s H E scope f c') body (t E))
    (h1 : (x == Str.ofString "__debug__") = false := by decide) (h2 : (a == Str.ofString "__debug__") = false := by decide) (h3 : (a == Str.ofString "__classdict__") = false := by decide) :
    PE X (.Call (.Name x p) [.Lambda params body scope lpos] [] pos) (LamX.tLam TB.T TT t) := by
  obtain ⟨oc, od, kV, doc, pm, an, cdv, ct, osl, rfl, lk, hcg⟩ := F.ex
  exact LamX.pe_lamcall hg hm F.kp lk hcg hb Sg hNg hva (hG cdv) hT hcode hmT hu hr L hdef hbind hbody h1 h2 h3
/-! ### a chain of three comparisons -/
def tChain3 (r r' r'' : R2) (ta tb tc td : TE) : TE := fun σ H Q => ta σ H fun x H1 => tb σ H1 fun y H2 => r x y H2 fun z H3 => ∃ k, z = .bl k ∧
  (if k = true then tc σ H3 fun w' H4 => r' y w' H4 fun z' H5 => ∃ k', z' = .bl k' ∧ (if k' = true then td σ H5 fun w2 H6 => r'' w' w2 H6 Q else Q (.bl false) H5) else Q (.bl false) H3)
theorem pe_chain3 {X : Cx} {a b c d : Expr} {ta tb tc td : TE} {pos : Pos} {op op' op'' : CmpOp} {r r' r'' : R2} (ho : OpR X (compareOp op) r) (ho' : OpR X (compareOp op') r') (ho'' : OpR X (compareOp op'') r'') (ha : PE X a ta) (hb : PE X b tb) (hc : PE X c tc) (hd : PE X d td)
    (hm : lastMarks [op, op', op''] [b, c, d] = false := by with_unfolding_all rfl) : PE X (.Compare a [op, op', op''] [b, c, d] pos) (tChain3 r r' r'' ta tb tc td) := by
  refine ⟨fun pins s σ H Q I h => ?_⟩
  refine Compare_chain (thn (ha.run pins s σ H _ I h) fun v s1 ⟨x, H1, I1, r1, q1⟩ => chain_link (thn (hb.run pins s1 σ H1 _ I1 q1) fun u s2 ⟨y, H2, I2, r2, q2⟩ =>
    thn (ho pins s2 σ H2 x y v u _ I2 r1 r2 q2) fun d s3 ⟨z, H3, I3, r3, k, e, q3⟩ => ?_)) hm
  subst e
  cases r3
  refine wpAny_truthy_bool ?_
  cases k with
  | false => exact ite_ff ⟨.bl false, H3, I3, rfl, q3⟩
  | true =>
    refine ite_tt (chain_link (thn (hc.run pins s3 σ H3 _ I3 q3) fun w' s4 ⟨z', H4, I4, r4, q4⟩ => thn (ho' pins s4 σ H4 y z' u w' _ I4 r2 r4 q4) fun d' s5 ⟨z2, H5, I5, r5, k2, e2, q5⟩ => ?_))
    subst e2
    cases r5
    refine wpAny_truthy_bool ?_
    cases k2 with
    | false => exact ite_ff ⟨.bl false, H5, I5, rfl, q5⟩
    | true => exact ite_tt (chain_last (thn (hd.run pins s5 σ H5 _ I5 q5) fun w2 s6 ⟨z3, H6, I6, r6, q6⟩ => ho'' pins s6 σ H6 z' z3 w' w2 Q I6 r4 r6 q6))
section
variable {K : PySem.W.Frag} {W : WX}
def wChain3 (g g' g'' : D → D → (D → Prop) → Prop) (wa wb wc wd : EW) : EW := fun τ q e => wa τ (fun d1 τ1 => wb τ1 (fun d2 τ2 => g d1 d2 fun d => ∃ b, d = .bl b ∧
  (b = true → wc τ2 (fun d3 τ3 => g' d2 d3 fun d => ∃ b', d = .bl b' ∧ (b' = true → wd τ3 (fun d4 τ4 => g'' d3 d4 fun d => q d τ4) e) ∧ (b' = false → q (.bl false) τ3)) e) ∧ (b = false → q (.bl false) τ2)) e) e
theorem de_chain3 {r r' r'' : R2} {g g' g'' : D → D → (D → Prop) → Prop} {ta tb tc td : TE} {wa wb wc wd : EW} (o : Op2 K r g) (o' : Op2 K r' g') (o'' : Op2 K r'' g'') (ha : DE K W ta wa) (hb : DE K W tb wb) (hc : DE K W tc wc) (hd : DE K W td wd) : DE K W (tChain3 r r' r'' ta tb tc td) (wChain3 g g' g'' wa wb wc wd) := by
  refine ⟨fun σ H τ F Q q e S h k x => ?_⟩
  refine ha.run σ H τ F _ _ e S h (fun v1 d1 τ1 F1 H1 t1 r1 h1 => ?_) x
  refine hb.run σ H1 τ1 F1 _ _ e t1.ok h1 (fun v2 d2 τ2 F2 H2 t2 r2 h2 => ?_) (x.of t1)
  refine o F2 H2 v1 v2 d1 d2 _ _ t2.ok.sub (r1.mono t2.ext.f) r2 h2 fun v d F3 H3 e3 s3 r3 ⟨b, eb, h3, h4⟩ => ?_
  subst eb
  have t3 : To K F2 H2 σ τ2 F3 H3 τ2 := .small t2.ok e3 s3
  have t03 := (t1.trans t2).trans t3
  refine ⟨b, r3.bl_of, ?_⟩
  cases b with
  | false => exact iteF (k _ _ τ2 F3 H3 t03 (.bl false) (h4 rfl))
  | true =>
    refine iteT ?_
    refine hc.run σ H3 τ2 F3 _ _ e t3.ok (h3 rfl) (fun v4 d4 τ4 F4 H4 t4 r4 h5 => ?_) (x.of t03)
    refine o' F4 H4 v2 v4 d2 d4 _ _ t4.ok.sub (r2.mono ((e3.f).trans t4.ext.f)) r4 h5 fun v d F5 H5 e5 s5 r5 ⟨b', eb', h6, h7⟩ => ?_
    subst eb'
    have t5 : To K F4 H4 σ τ4 F5 H5 τ4 := .small t4.ok e5 s5
    have t05 := (t03.trans t4).trans t5
    refine ⟨b', r5.bl_of, ?_⟩
    cases b' with
    | false => exact iteF (k _ _ τ4 F5 H5 t05 (.bl false) (h7 rfl))
    | true =>
      refine iteT ?_
      refine hd.run σ H5 τ4 F5 _ _ e t5.ok (h6 rfl) (fun v6 d6 τ6 F6 H6 t6 r6 h8 => ?_) (x.of t05)
      refine o'' F6 H6 v4 v6 d4 d6 _ Q t6.ok.sub (r4.mono ((e5.f).trans t6.ext.f)) r6 h8 fun v d F7 H7 e7 s7 r7 h9 => ?_
      exact k v d τ6 F7 H7 ((t05.trans t6).trans (.small t6.ok e7 s7)) r7 h9
end
end L3

/-! ## tuples: + and slices of any kind, order of pairs; truth of a sequence -/
namespace L3
open PySem PySem.Spec PyProof.Rows L2
variable [TB : TabT]
section
variable {K : PySem.W.Frag} {W : WX}
def gCatA : D → D → (D → Prop) → Prop := fun x y q => ∃ as bs, x = .tup as ∧ y = .tup bs ∧ as.length + bs.length ≤ 1000 ∧ q (.tup (as ++ bs))
theorem Reps.nil_l {F : Hp} {xs : List V} {ds : List D} (r : Reps K F xs ds) : xs = [] ↔ ds = [] := by
  cases r <;> simp
theorem o_catA : Op2 K (rCatA K) gCatA := by
  rintro F H x y d1 d2 q Q s r1 r2 ⟨as, bs, rfl, rfl, hl, hq⟩ k
  cases r1 with
  | @tup a xs _ h1 r1 =>
    cases r2 with
    | @tup b ys _ h2 r2 =>
      refine ⟨a, b, xs, ys, rfl, rfl, SqT_mono s h1, SqT_mono s h2, by rw [r1.length, r2.length]; exact Nat.le_of_lt (small1000 hl), fun z => ?_, fun _ z => ?_, fun z1 z2 p hp => ?_⟩
      · have e := r1.nil_l.mp z
        subst e
        exact k _ (.tup _) F H (.refl _ _ _) s (.tup h2 r2) hq
      · have e := r2.nil_l.mp z
        subst e
        rw [List.append_nil] at hq
        exact k _ (.tup _) F H (.refl _ _ _) s (.tup h1 r1) hq
      · obtain ⟨x1, x2⟩ := new_ext (o := .tup (xs ++ ys)) s hp
        exact k _ (.tup (as ++ bs)) _ _ x1 x2 (.tup (.inl (.inl upd_same)) ((r1.append r2).mono (new_same s hp))) hq
/-- t[lo:hi] of any kind -/
def wSlA (we : EW) (wl wh : OW) : EW := fun τ q e => we τ (fun d τ1 => wl τ1 (fun lo τ2 => wh τ2 (fun hi τ3 => ∃ es, d = .tup es ∧ q (.tup (cutDs es lo hi)) τ3) e) e) e
theorem cutDs_whole {α : Type} {xs : List α} {lo hi : Option Int} (h1 : HT.sIx xs.length 0 lo = 0) (h2 : HT.sIx xs.length xs.length hi = xs.length) : cutDs xs lo hi = xs := by
  unfold cutDs
  rw [h1, h2]
  simp
theorem de_slA {t : TE} {tl th : TO} {w : EW} {wl wh : OW} (h : DE K W t w) (hl : DO K W tl wl) (hh : DO K W th wh) : DE K W (tSl (L2.rSlA K) t tl th) (wSlA w wl wh) := by
  refine ⟨fun σ H τ F Q q e S hw k x => h.run σ H τ F _ _ e S hw (fun z d τ1 F1 H1 t1 r1 h1 => ?_) x⟩
  refine hl.run σ H1 τ1 F1 _ _ e t1.ok h1 (fun lo τ2 F2 H2 t2 h2 => ?_) (x.of t1)
  refine hh.run σ H2 τ2 F2 _ _ e t2.ok h2 (fun hi τ3 F3 H3 t3 h3 => ?_) (x.of (t1.trans t2))
  obtain ⟨es, rfl, hq⟩ := h3
  have r3 := (r1.mono t2.ext.f).mono t3.ext.f
  cases r3 with
  | @tup a xs _ hs r =>
    refine ⟨a, xs, rfl, SqT_mono t3.ok.sub hs, fun hw => ?_, fun hn p hp => ?_⟩
    · rw [r.length] at hw
      rw [cutDs_whole hw.1 hw.2] at hq
      exact k _ (.tup es) τ3 _ _ ((t1.trans t2).trans t3) (.tup hs r) hq
    · obtain ⟨x1, x2⟩ := new_ext (o := .tup (cutV xs lo hi)) t3.ok.sub hp
      exact k _ (.tup (cutDs es lo hi)) τ3 _ _ (((t1.trans t2).trans t3).trans (.small t3.ok x1 x2)) (.tup (.inl (.inl upd_same)) ((cut_rep r).mono (new_same t3.ok.sub hp))) hq
/-- order of tuples of ints -/
def gLtT : D → D → (D → Prop) → Prop := fun x y q => ∃ ns ms : List Int, x = .tup (ns.map D.int) ∧ y = .tup (ms.map D.int) ∧ q (.bl (HT.lexLt ns ms))
def leInts (ns ms : List Int) : Bool := Ob.lexAt (fun j => decide (ns.getD j 0 = ms.getD j 0)) (fun j => decide (ns.getD j 0 ≤ ms.getD j 0)) (decide (ns.length ≤ ms.length)) 0 (min ns.length ms.length)
def gLeT : D → D → (D → Prop) → Prop := fun x y q => ∃ ns ms : List Int, x = .tup (ns.map D.int) ∧ y = .tup (ms.map D.int) ∧ q (.bl (leInts ns ms))
theorem Rep.tupInts {F : Hp} {v : V} {ns : List Int} (h : Rep K F v (.tup (ns.map D.int))) : ∃ a, v = .ref a ∧ SqT K F a (ns.map V.int) := by
  cases h with
  | @tup a xs _ h r =>
    have e := r.intsV
    subst e
    exact ⟨a, rfl, h⟩
theorem o_ltT : Op2 K (rLtT K) gLtT := by
  rintro F H x y d1 d2 q Q s r1 r2 ⟨ns, ms, rfl, rfl, hq⟩ k
  obtain ⟨a, rfl, h1⟩ := r1.tupInts
  obtain ⟨b, rfl, h2⟩ := r2.tupInts
  exact ⟨a, b, ns, ms, rfl, rfl, SqT_mono s h1, SqT_mono s h2, k _ (.bl _) F H (.refl _ _ _) s (.bl _) hq⟩
theorem o_leT : Op2 K (L2.rLeT K) gLeT := by
  rintro F H x y d1 d2 q Q s r1 r2 ⟨ns, ms, rfl, rfl, hq⟩ k
  obtain ⟨a, rfl, h1⟩ := r1.tupInts
  obtain ⟨b, rfl, h2⟩ := r2.tupInts
  exact ⟨a, b, ns, ms, rfl, rfl, SqT_mono s h1, SqT_mono s h2, k _ (.bl _) F H (.refl _ _ _) s (.bl _) hq⟩
/-- the truth of a thing -/
def truD : D → Option Bool | .non => some false | .bl b => some b | .int i => some (i != 0) | .tup ds => some (!ds.isEmpty) | .lst ds => some (!ds.isEmpty) | .fl ds => some (!ds.isEmpty) | _ => none
def wTru (we : EW) : TW := fun τ q e => we τ (fun d τ' => ∃ b, truD d = some b ∧ q b τ') e
theorem Reps.isEmpty {F : Hp} {xs : List V} {ds : List D} (r : Reps K F xs ds) : xs.isEmpty = ds.isEmpty := by cases r <;> rfl
theorem dt_tru {t : TE} {w : EW} (h : DE K W t w) : DT K W (fun σ H Q => t σ H fun x H' => ∃ k, TruV K x H' k ∧ Q k H') (wTru w) := by
  refine ⟨fun σ H τ F Q q e S hw k x => h.run σ H τ F _ _ e S hw (fun z d τ1 F1 H1 t1 r1 ⟨b, eb, hq⟩ => ⟨b, ?_, k b τ1 F1 H1 t1 hq⟩) x⟩
  cases r1 with
  | non => cases eb; rfl
  | bl b => cases eb; rfl
  | int i => cases eb; rfl
  | tup h r =>
    cases eb
    exact .inr (.inl ⟨_, SqT_mono t1.ok.sub h, by rw [r.isEmpty]⟩)
  | lst h r =>
    cases eb
    exact .inl ⟨_, .inl (.inl (t1.ok.sub _ _ h)), by rw [r.isEmpty]⟩
  | fl h r =>
    cases eb
    exact .inl ⟨_, t1.ok.sub.seq h, by rw [r.isEmpty]⟩
  | _ => cases eb
end
end L3

/-! ## enumerate of a list, any, min, in, x[i] += e, a comprehension that is the frame's own -/
namespace L3
open PySem PySem.Spec PyProof.Rows L2
variable [TB : TabT]
/-- xs[k], k from 0 on -/
def rGetN : V → V → Hp → VK → Prop := fun o i H Q => ∃ p xs k v, o = .ref p ∧ i = .int k ∧ H p = some (.lst xs) ∧ 0 ≤ k ∧ xs[k.toNat]? = some v ∧ Q v H
theorem get_listN {X : Cx} : PGet X rGetN := by
  intro pins s σ H o i ov iv Q I ro ri h
  obtain ⟨p, xs, k, v, rfl, rfl, hp, h0, hv, q⟩ := h
  cases ro
  obtain ⟨tk, rfl⟩ := ri
  obtain ⟨its, rv, pl, hz⟩ := I.list (.inl (.inl hp))
  have hl := rv.length
  obtain ⟨hlt, _⟩ := List.getElem?_eq_some_iff.mp hv
  have hsz := sizeLine_eq
  obtain ⟨u, hu, ru⟩ := Vals.get rv hv
  refine getItem_listL pl.isList h0 (by omega) hu ?_
  exact ⟨v, H, I, ru, q⟩
theorem lt65 {k : Nat} {A : Around} (r : Room k A) : A.units + 65 < cLine := by have := r.un; omega
def rInT (K : PySem.W.Frag) : R2 := fun x y H Q => ∃ d ds, Dp K H x d ∧ Dp K H y (.tuple ds) ∧ SeqAt.shaped d = true ∧ SeqAt.shaped (.tuple ds) = true ∧ Q (.bl (ds.any fun z => PyData.eqv z d)) H
theorem op_inT {X : Cx} (hu : X.A.units + 65 < cLine) : OpR X (compareOp .In) (rInT X.K) := by
  intro pins s σ H x y v u Q I rx ry h
  obtain ⟨d, ds, hd, he, sd, se, q⟩ := h
  obtain ⟨as, r1⟩ := Dp.reads I d x v hd rx
  obtain ⟨bs, r2⟩ := Dp.reads I (.tuple ds) y u he ry
  exact SeqAt.in_tuple_reads r2 r1 (SeqAt.canLay_of_shaped se) (SeqAt.canLay_of_shaped sd) (room_in_shaped sd hu) ⟨.bl _, H, I, rfl, q⟩
theorem ixN_ltN {n j : Nat} (h : j < n) : ixN n (j : Int) = some j := by
  unfold ixN
  rw [if_pos (by omega)]
  simp
  omega
section
variable {K : PySem.W.Frag} {W : WX}
def gInT : D → D → (D → Prop) → Prop := fun x y q => ∃ d ds, toPy x = some d ∧ toPy y = some (.tuple ds) ∧ SeqAt.shaped d = true ∧ SeqAt.shaped (.tuple ds) = true ∧ q (.bl (ds.any fun z => PyData.eqv z d))
theorem o_inT : Op2 K (rInT K) gInT := by
  rintro F H x y d1 d2 q Q s r1 r2 ⟨v, ds, e1, e2, h1, h2, hq⟩ k
  exact ⟨v, ds, Dp_mono s (dp_of r1 e1), Dp_mono s (dp_of r2 e2), h1, h2, k _ _ F H (.refl _ _ _) s (.bl _) hq⟩
def gAny : List D → (D → Prop) → Prop := fun ds q => ∃ (es : List D) (bs : List Bool), (ds = [.lst es] ∨ ds = [.fl es]) ∧ es = bs.map D.bl ∧ q (.bl (bs.any id))
theorem o_any : OpN K (rAny K) gAny := by
  rintro F H xs ds q Q s r ⟨es, bs, e, rfl, hq⟩ k
  rcases e with rfl | rfl
  · obtain ⟨v, rfl, r1⟩ := r.one
    cases r1 with
    | lst h r2 =>
      have := Reps.bls r2
      subst this
      exact ⟨_, bs, rfl, .inl (.inl (s _ _ h)), k _ _ F H (.refl _ _ _) s (.bl _) hq⟩
  · obtain ⟨v, rfl, r1⟩ := r.one
    cases r1 with
    | fl h r2 =>
      have := Reps.bls r2
      subst this
      exact ⟨_, bs, rfl, s.seq h, k _ _ F H (.refl _ _ _) s (.bl _) hq⟩
def mnI (a b : Int) : Int := if b < a then b else a
def rMin2 : List V → Hp → VK → Prop := fun xs H Q => ∃ i j, xs = [.int i, .int j] ∧ Q (.int (if j < i then j else i)) H
def gMin2 : List D → (D → Prop) → Prop := fun ds q => ∃ i j : Int, ds = [.int i, .int j] ∧ q (.int (mnI i j))
theorem o_min2 : OpN K rMin2 gMin2 := by
  rintro F H xs ds q Q s r ⟨i, j, rfl, hq⟩ k
  obtain ⟨v, v', rfl, r1, r2⟩ := r.two
  exact ⟨i, j, by rw [r1.int_of, r2.int_of], k _ _ F H (.refl _ _ _) s (.int _) hq⟩
def wEnumL (wa : AW) : IW := fun τ q e => wa τ (fun ds τ' => ∃ es, (ds = [.lst es] ∨ ds = [.fl es]) ∧ q (es.mapIdx fun i d => .tup [.int i, d]) τ') e
theorem it_enum {F : Hp} {a : Addr} {xs : List V} {ds : List D} (h : SqL K F a xs) (r : Reps K F xs ds) : ItOk K F (Ite K a) (ds.mapIdx fun i d => .tup [.int i, d]) := by
  refine ⟨fun i F2 H s s2 hi => ?_, fun F2 H s s2 => ⟨xs, s2.seq (s.seq h), by rw [List.length_mapIdx, r.length]; exact Nat.le_refl _⟩, fun i F2 H x H' s s2 hi y => ?_⟩
  · rw [List.length_mapIdx, ← r.length] at hi
    exact ⟨xs, xs[i], s2.seq (s.seq h), List.getElem?_eq_getElem hi⟩
  · obtain ⟨T, x', rfl, hT, rfl, e⟩ := y
    obtain ⟨d, e1, e2⟩ := (r.mono s).get (e xs (s2.seq (s.seq h)))
    obtain ⟨x1, x2⟩ := new_ext (o := .tup [.int i, x']) s2 hT
    refine ⟨.tup [.int i, d], _, by rw [List.getElem?_mapIdx, e1]; rfl, x1, x2, .tup (.inl (.inl upd_same)) (.cons (.int _) (.cons (e2.mono (new_same s2 hT)) .nil))⟩
theorem di_enumL {t : TA} {w : AW} (h : DA K W t w) : DI K W (iEnum K t) (wEnumL w) := by
  refine ⟨fun σ H τ F R q e S hw k x => h.run σ H τ F _ _ e S hw (fun vs ds τ' F' H' t' r ⟨es, ed, hq⟩ => ?_) x⟩
  rcases ed with rfl | rfl
  · obtain ⟨v, rfl, r1⟩ := r.one
    cases r1 with
    | lst hs r2 => exact ⟨_, _, rfl, .inl (.inl (t'.ok.sub _ _ hs)), k _ _ τ' F' H' t' (it_enum (.inl (.inl hs)) r2) hq⟩
  · obtain ⟨v, rfl, r1⟩ := r.one
    cases r1 with
    | fl hs r2 => exact ⟨_, _, rfl, t'.ok.sub.seq hs, k _ _ τ' F' H' t' (it_enum hs r2) hq⟩
/-- x[k] += e, x an own list of ints -/
def wAugOwn (i : Nat) (wk we : EW) : SW := fun E τ => (∃ p es, τ[i]? = some (.own p (.lst es))) ∧ wk τ (fun k τ1 => ∃ p es n a, τ1[i]? = some (.own p (.lst es)) ∧ k = .int n ∧ 0 ≤ n ∧ es[n.toNat]? = some (.int a) ∧ we τ1 (fun d τ2 => ∃ es2 b, τ2[i]? = some (.own p (.lst es2)) ∧ es2.length = es.length ∧ d = .int b ∧ E.nx (τ2.set i (.own p (.lst (es2.set n.toNat (.int (a + b))))))) E.ex) E.ex
theorem ds_augOwn {i : Nat} {t u : TE} {w v : EW} (h : DE K W t w) (g : DE K W u v) : DS K W (tAugS (tVar i) t u rGetN (ipI fun a b => a + b) rSetL) (wAugOwn i w v) := by
  refine ⟨fun σ H τ F Dn E S ⟨⟨p, es, e0⟩, hw⟩ o => ?_⟩
  obtain ⟨s0, _, vs0, h0, _⟩ := own_lst S e0
  refine ⟨.ref p, s0, ?_⟩
  refine h.run σ H τ F _ _ E.ex S hw (fun y kd τ1 F1 H1 t1 r1 ⟨p', es', n, a, e1, ek, n0, ea, hq⟩ => ?_) o.xto
  subst ek
  obtain ⟨s1, _, vs1, h1, r2⟩ := own_lst t1.ok e1
  rw [s0] at s1
  cases s1
  obtain ⟨vv, ev, rv⟩ := r2.getD ea
  refine ⟨p, vs1, n, vv, rfl, r1.int_of, h1, n0, ev, ?_⟩
  refine g.run σ H1 τ1 F1 _ _ E.ex t1.ok hq (fun x d τ2 F2 H2 t2 r3 ⟨es2, b, e2, hl, ed, hn⟩ => ?_) (o.of t1).xto
  subst ed
  refine ⟨a, b, rv.int_of, r3.int_of, ?_⟩
  obtain ⟨s2, _, vs2, h2, r4⟩ := own_lst t2.ok e2
  rw [s0] at s2
  cases s2
  have hlt : n.toNat < es'.length := (List.getElem?_eq_some_iff.mp ea).1
  refine ⟨p, vs2, n, n.toNat, rfl, r1.int_of, h2, ?_, ?_⟩
  · have : n = ((n.toNat : Nat) : Int) := by omega
    rw [this]
    exact ixN_ltN (by rw [r4.length]; omega)
  · exact o.nx σ _ F2 _ (to_change (t1.trans t2) e2 (.lst (Reps.set (.int _) _ r4))) hn
/-- what is there and belongs to nobody becomes the frame's own -/
theorem To.takeOwn {F H F1 H1 : Hp} {σ : L2.St} {τ τ1 : List Cell} {i : Nat} {p : Addr} {vs : HO} {ds : Cont} (t : To K F H σ τ F1 H1 τ1) (hp0 : Fr H p) (nF : F1 p = none) (hH : H1 p = some vs) (nO : ¬ IsOwn τ1 p) (r : CRep K F1 vs ds) (fl : Flat ds := by trivial) :
    To K F H (σ.set i (some (.ref p))) τ F1 H1 (τ1.set i (.own p ds)) :=
  ⟨t.ext, grow_set t fun a f => by rw [flat_has fl f]; exact hp0, t.ok.setOwn (.flat fl nF hH r) fun a f => by rw [flat_has fl f]; exact nO⟩
def wLcOwn (i : Nat) (wI : IW) (wg : GW) (wt : TW) (we : EW) (vs : List Nat) : SW := fun E τ => wI τ (fun ds τ1 => ds.length ≤ 1000 ∧ ∃ inv : Nat → List D → List Cell → Prop, inv 0 [] (wipeD τ1 vs) ∧
  (∀ i d acc τ2, ds[i]? = some d → inv i acc τ2 → acc.length ≤ i → wg d τ2 fun τ3 => wt τ3 (fun b τ4 => (b = true → we τ4 (fun y τ5 => inv (i + 1) (acc ++ [y]) (wipeD τ5 vs)) noX) ∧ (b = false → inv (i + 1) acc (wipeD τ4 vs))) noX) ∧
  ∀ acc τ2, inv ds.length acc (wipeD τ2 vs) → acc.length ≤ ds.length → ∀ p, E.nx ((wipeD τ2 vs).set i (.own p (.lst acc)))) E.ex
theorem ds_lcOwn {i : Nat} {wi : TI} {g : TG} {tt : TT} {te : TE} {vs ws : List Nat} {wI : IW} {wg : GW} {wt : TW} {we : EW} (hi : DI K W wi wI) (hg : DG K ws g wg) (ht : DT K W0 tt wt) (he : DE K W0 te we) (hs : ∀ j ∈ ws, j ∈ vs) :
    DS K W (tAsg (tLc wi g tt te vs) (gName i)) (wLcOwn i wI wg wt we vs) := by
  refine ⟨fun σ H τ F Dn E S hw o => hi.run σ H τ F _ _ E.ex S hw (fun J ds τ1 F1 H1 t1 it ⟨hn, inv, h0, hst, hd⟩ Da hD => ?_) o.xto⟩
  refine lc_turns hg ht he hs t1.ok it hD hn h0 hst fun accV acc F2 H2 τ2 T fD nD hH ra la hinv => ?_
  have T1 : To K F H σ τ F2 H2 (wipeD τ2 vs) := by
    refine t1.trans (To.at (τ1 := wipeD τ2 vs) T ?_ fun p h => h)
    rw [← wipeD_idem]
    exact T.ok.wiped (by rw [wipe_length]) fun j hj => (wipe_ne hj).symm
  exact o.nx _ _ F2 _ (T1.takeOwn (t1.ext.there _ (fr_none hD)) fD hH nD (.lst ra)) (hd acc τ2 hinv la Da)
end
end L3

/-! ## == and != of instances with an own ==, with anything, either way round -/
namespace HN2
open PySem PySem.Spec PyProof.Rows PySem.SeqAt
section
variable {M : Model} {prog : Program} {w : World} {A : Around} {E : Value → Shared → Prop} {s : Shared} {K : PySem.W.Frag} {x C f : Addr} {ox : Obj} {od : Option Obj} {b : Value}
theorem try_eqK {Q : Option Value → Shared → Prop} (X : K.In s.heap) (I : PySem.W.InstAt s.heap x ox C od) (hs : PySem.W.findIn K (.ref C) "__eq__" = some (some (.ref f))) (hf : PySem.W.isFn K (.ref f) = true)
    (h : wpAny M A (call (.ref f) [.ref x, b]) (fun v s' => ∃ k, v = .bool k ∧ Q (some (.bool k)) s') E s) : wpAny M A (tryCompare (.ref x) "__eq__" b) Q E s := by
  unfold tryCompare
  refine wpAny_bind (PySem.W.ifBound_K X I hs hf (wpAny_mono h (fun v s' hv => ?_) fun _ _ e => e))
  obtain ⟨k, rfl, hq⟩ := hv
  exact wpAny_pure hq
theorem entry_neK {Q : Fin → Shared → Prop} (hu : A.units < cLine) (X : K.In s.heap) (I : PySem.W.InstAt s.heap x ox C od) (hs : PySem.W.findIn K (.ref C) "__eq__" = some (some (.ref f))) (hf : PySem.W.isFn K (.ref f) = true)
    (h : wpAny (model prog w) A (call (.ref f) [.ref x, b]) (fun v s' => ∃ k, v = .bool k ∧ Q (.done (.ret (.bool (!k)))) s') E s) : wpAny (model prog w) A (Builtin.«object.__ne__» ⟨[.ref x, b], []⟩) Q E s := by
  unfold Builtin.«object.__ne__»
  repeat (first
    | with_reducible refine wpAny_cRoomFor hu ?_
    | (refine wpAny_bind (m := callSpecialIfBound? (.ref x) (Str.ofString "__eq__") [b])
        (PySem.W.ifBound_K X I hs hf (wpAny_mono h (fun r s' hr => by
          obtain ⟨k, rfl, hq⟩ := hr
          repeat (first | exact hq | exact wpAny_pure hq | exact wpAny_truthy_bool hq | (refine wpAny_bind (m := truthy (.bool _)) (wpAny_truthy_bool ?_)) | wp_step)) fun _ _ e => e)))
    | wp_step)
theorem call_objNe {Q : Value → Shared → Prop} (hu : A.in1.units < cLine) (X : K.In s.heap) (I : PySem.W.InstAt s.heap x ox C od) (hm : PySem.W.mroIn K C (.type "object") = some true) (hs : PySem.W.findIn K (.ref C) "__eq__" = some (some (.ref f))) (hf : PySem.W.isFn K (.ref f) = true)
    (h : wpAny (model prog w) A.in1 (call (.ref f) [.ref x, b]) (fun v s' => ∃ k, v = .bool k ∧ Q (.bool (!k)) s') E s) : wpAny (model prog w) A (call (.builtin "object.__ne__") [.ref x, b]) Q E s :=
  wpAny_call (codeAny_call_builtin F.cmp_object.ne.plain F.cmpEntry_ne (PySem.W.check_slot F.cmpKind_ne F.cmpSplit_ne (I.type.andThen (PySem.W.looks_mroIn X hm)) (F.cmpArgs_ne _ _) (entry_neK hu X I hs hf h)))
theorem ifBound_objNe {args : List Value} {Q : Option Value → Shared → Prop} (X : K.In s.heap) (I : PySem.W.InstAt s.heap x ox C od) (hs : PySem.W.findIn K (.ref C) "__ne__" = some (some (.builtin "object.__ne__")))
    (h : wpAny M A (call (.builtin "object.__ne__") (.ref x :: args)) (fun v => Q (some v)) E s) : wpAny M A (callSpecialIfBound? (.ref x) "__ne__" args) Q E s := by
  simp only [callSpecialIfBound?, bindSpecialIfBound?]
  refine wpAny_holding (wpAny_bind (wpAny_bind (wpAny_bind (I.type.here ((PySem.W.looks_findIn X hs).here ?_)))))
  refine wpAny_bind (wpAny_askSetting (wpAny_ite ?_))
  have fin : wpAny M A (call (.builtin "object.__ne__") ([.ref x] ++ args) >>= fun v => pure (some v)) Q E s := wpAny_bind (wpAny_mono h (fun v s' h' => wpAny_pure h') fun _ _ h' => h')
  split
  · exact wpAny_bind (wpAny_of_eq (F.cmp_object.ne.bind _) (wpAny_pure (by exact fin)))
  · exact wpAny_tryCatch (wpAny_bind (wpAny_of_eq (F.cmp_object.ne.bind _) (wpAny_pure (by exact fin))))
theorem try_neK {Q : Option Value → Shared → Prop} (hu : A.in1.units < cLine) (X : K.In s.heap) (I : PySem.W.InstAt s.heap x ox C od) (hm : PySem.W.mroIn K C (.type "object") = some true) (hn : PySem.W.findIn K (.ref C) "__ne__" = some (some (.builtin "object.__ne__")))
    (hs : PySem.W.findIn K (.ref C) "__eq__" = some (some (.ref f))) (hf : PySem.W.isFn K (.ref f) = true)
    (h : wpAny (model prog w) A.in1 (call (.ref f) [.ref x, b]) (fun v s' => ∃ k, v = .bool k ∧ Q (some (.bool (!k))) s') E s) : wpAny (model prog w) A (tryCompare (.ref x) "__ne__" b) Q E s := by
  unfold tryCompare
  refine wpAny_bind (ifBound_objNe X I hn (call_objNe hu X I hm hs hf (wpAny_mono h (fun v s' hv => ?_) fun _ _ e => e)))
  obtain ⟨k, rfl, hq⟩ := hv
  exact ⟨k, rfl, wpAny_pure hq⟩
/-- an instance on the left, what is compared first -/
theorem rc_left {op : CmpOp} {tb : Value} {Q : Value → Shared → Prop} (hu : A.units < cLine) (X : K.In s.heap) (I : PySem.W.InstAt s.heap x ox C od) (hb : PySem.W.Looks (model prog w) s.heap (typeOf b) tb) (hn : PySem.W.notFirst K C tb = true)
    (one : wpAny (model prog w) A (tryCompare (.ref x) (cmpInfo op).2.1 b) (fun r s' => ∃ v, r = some v ∧ Q v s') E s) : wpAny (model prog w) A (richCompare op (.ref x) b) Q E s := by
  unfold richCompare
  simp only [oneThing_ref]
  refine wpAny_holding (wpAny_bind (wpAny_cRoomFor hu ?_))
  refine wpAny_bind (I.type.here (wpAny_bind (hb.here ?_)))
  split
  · rename_i q
    have e : PySem.W.subIn K tb (.ref C) = some false := by
      rcases Bool.or_eq_true_iff.mp hn with e | e
      · rw [beq_iff_eq.mp e] at q; simp at q
      · exact beq_iff_eq.mp e
    refine wpAny_bind ((PySem.W.looks_subIn X e).here ?_)
    simp only [Bool.false_eq_true, if_false]
    refine wpAny_bind (wpAny_mono one (fun r s' z => ?_) fun _ _ e => e)
    obtain ⟨v, rfl, hq⟩ := z
    exact wpAny_pure hq
  · refine wpAny_bind (wpAny_pure ?_)
    simp only [Bool.false_eq_true, if_false]
    refine wpAny_bind (wpAny_mono one (fun r s' z => ?_) fun _ _ e => e)
    obtain ⟨v, rfl, hq⟩ := z
    exact wpAny_pure hq
/-- an instance on the right: the left one, of a built-in kind, declines, and the right one is asked -/
theorem rc_right {op : CmpOp} {T : String} {Q : Value → Shared → Prop} (hu : A.units < cLine) (X : K.In s.heap) (I : PySem.W.InstAt s.heap x ox C od) (hT : s.TypeIs b T) (hn : PySem.W.subIn K (.ref C) (.type T) = some false)
    (h1 : oneThing? op b (.ref x) = none)
    (dec : wpAny (model prog w) A (tryCompare b (cmpInfo op).2.1 (.ref x)) (fun r s' => r = none ∧ s' = s) E s)
    (one : wpAny (model prog w) A (tryCompare (.ref x) (cmpInfo op).2.2 b) (fun r s' => ∃ v, r = some v ∧ Q v s') E s) : wpAny (model prog w) A (richCompare op b (.ref x)) Q E s := by
  unfold richCompare
  simp only [h1]
  refine wpAny_holding (wpAny_bind (wpAny_cRoomFor hu ?_))
  refine wpAny_bind (wpAny_typeOf hT (wpAny_bind (I.type.here ?_)))
  split
  · refine wpAny_bind ((PySem.W.looks_subIn X hn).here ?_)
    simp only [Bool.false_eq_true, if_false, Bool.not_false, if_true]
    refine wpAny_bind (wpAny_mono dec (fun r s1 z => ?_) fun _ _ e => e)
    obtain ⟨z1, z2⟩ := z
    subst z1
    subst z2
    refine wpAny_bind (wpAny_mono one (fun r s' z => ?_) fun _ _ e => e)
    obtain ⟨v, rfl, hq⟩ := z
    exact wpAny_pure hq
  · rename_i q
    exact absurd (by simp) q
end
end HN2
namespace HN2
open PySem PySem.Spec PyProof.Rows PySem.SeqAt
section
variable {M : Model} {prog : Program} {w : World} {A : Around} {E : Value → Shared → Prop} {s : Shared} {K : PySem.W.Frag} {x C dx : Addr} {od : Option Obj}
theorem dec_tuple_eq {Q : Fin → Shared → Prop} {t : Addr} (X : K.In s.heap) (I : PySem.W.InstAt s.heap x (PySem.W.instObj C dx) C od) (hn : PySem.W.subIn K (.ref C) (.type "tuple") = some false) (hq : Q (.done (.ret .notImplemented)) s) :
    wpAny M A (Builtin.«tuple.__eq__» ⟨[.ref t, .ref x], []⟩) Q E s := by
  have L0 := I.type (M := M)
  have L1 := PySem.W.looks_subIn (M := M) X hn
  obtain ⟨hh, g, dr, tk, os⟩ := s
  unfold Builtin.«tuple.__eq__»
  repeat lk
  exact hq
theorem dec_list_eq {Q : Fin → Shared → Prop} {t : Addr} (X : K.In s.heap) (I : PySem.W.InstAt s.heap x (PySem.W.instObj C dx) C od) (hn : PySem.W.subIn K (.ref C) (.type "list") = some false) (hq : Q (.done (.ret .notImplemented)) s) :
    wpAny M A (Builtin.«list.__eq__» ⟨[.ref t, .ref x], []⟩) Q E s := by
  have L0 := I.type (M := M)
  have L1 := PySem.W.looks_subIn (M := M) X hn
  obtain ⟨hh, g, dr, tk, os⟩ := s
  unfold Builtin.«list.__eq__»
  repeat lk
  exact hq
theorem dec_dict_eq {Q : Fin → Shared → Prop} {t : Addr} (X : K.In s.heap) (I : PySem.W.InstAt s.heap x (PySem.W.instObj C dx) C od) (hn : PySem.W.subIn K (.ref C) (.type "dict") = some false) (hq : Q (.done (.ret .notImplemented)) s) :
    wpAny M A (Builtin.«dict.__eq__» ⟨[.ref t, .ref x], []⟩) Q E s := by
  have L0 := I.type (M := M)
  have L1 := PySem.W.looks_subIn (M := M) X hn
  obtain ⟨hh, g, dr, tk, os⟩ := s
  unfold Builtin.«dict.__eq__»
  repeat lk
  exact hq
theorem dec_int_eq {Q : Fin → Shared → Prop} {a : Int} {t : Tok} (I : PySem.W.InstAt s.heap x (PySem.W.instObj C dx) C od) (hq : Q (.done (.ret .notImplemented)) s) :
    wpAny M A (Builtin.«int.__eq__» ⟨[.int a t, .ref x], []⟩) Q E s := by
  have L2 := I.at_
  obtain ⟨hh, g, dr, tk, os⟩ := s
  change hh.get? x = some _ at L2
  unfold Builtin.«int.__eq__»
  repeat lk
  exact hq
theorem dec_bool_eq {Q : Fin → Shared → Prop} {a : Bool} (I : PySem.W.InstAt s.heap x (PySem.W.instObj C dx) C od) (hq : Q (.done (.ret .notImplemented)) s) :
    wpAny M A (Builtin.«int.__eq__» ⟨[.bool a, .ref x], []⟩) Q E s := by
  have L2 := I.at_
  obtain ⟨hh, g, dr, tk, os⟩ := s
  change hh.get? x = some _ at L2
  unfold Builtin.«int.__eq__»
  repeat lk
  exact hq
theorem dec_str_eq {Q : Fin → Shared → Prop} {a : Str} {t : Tok} (I : PySem.W.InstAt s.heap x (PySem.W.instObj C dx) C od) (hq : Q (.done (.ret .notImplemented)) s) :
    wpAny M A (Builtin.«str.__eq__» ⟨[.str a t, .ref x], []⟩) Q E s := by
  have L2 := I.at_
  obtain ⟨hh, g, dr, tk, os⟩ := s
  change hh.get? x = some _ at L2
  unfold Builtin.«str.__eq__»
  repeat lk
  exact hq
theorem dec_tuple_ne {Q : Fin → Shared → Prop} {t : Addr} (X : K.In s.heap) (I : PySem.W.InstAt s.heap x (PySem.W.instObj C dx) C od) (hn : PySem.W.subIn K (.ref C) (.type "tuple") = some false) (hq : Q (.done (.ret .notImplemented)) s) :
    wpAny M A (Builtin.«tuple.__ne__» ⟨[.ref t, .ref x], []⟩) Q E s := by
  have L0 := I.type (M := M)
  have L1 := PySem.W.looks_subIn (M := M) X hn
  obtain ⟨hh, g, dr, tk, os⟩ := s
  unfold Builtin.«tuple.__ne__»
  repeat lk
  exact hq
theorem dec_list_ne {Q : Fin → Shared → Prop} {t : Addr} (X : K.In s.heap) (I : PySem.W.InstAt s.heap x (PySem.W.instObj C dx) C od) (hn : PySem.W.subIn K (.ref C) (.type "list") = some false) (hq : Q (.done (.ret .notImplemented)) s) :
    wpAny M A (Builtin.«list.__ne__» ⟨[.ref t, .ref x], []⟩) Q E s := by
  have L0 := I.type (M := M)
  have L1 := PySem.W.looks_subIn (M := M) X hn
  obtain ⟨hh, g, dr, tk, os⟩ := s
  unfold Builtin.«list.__ne__»
  repeat lk
  exact hq
theorem dec_dict_ne {Q : Fin → Shared → Prop} {t : Addr} (X : K.In s.heap) (I : PySem.W.InstAt s.heap x (PySem.W.instObj C dx) C od) (hn : PySem.W.subIn K (.ref C) (.type "dict") = some false) (hq : Q (.done (.ret .notImplemented)) s) :
    wpAny M A (Builtin.«dict.__ne__» ⟨[.ref t, .ref x], []⟩) Q E s := by
  have L0 := I.type (M := M)
  have L1 := PySem.W.looks_subIn (M := M) X hn
  obtain ⟨hh, g, dr, tk, os⟩ := s
  unfold Builtin.«dict.__ne__»
  repeat lk
  exact hq
theorem dec_int_ne {Q : Fin → Shared → Prop} {a : Int} {t : Tok} (I : PySem.W.InstAt s.heap x (PySem.W.instObj C dx) C od) (hq : Q (.done (.ret .notImplemented)) s) :
    wpAny M A (Builtin.«int.__ne__» ⟨[.int a t, .ref x], []⟩) Q E s := by
  have L2 := I.at_
  obtain ⟨hh, g, dr, tk, os⟩ := s
  change hh.get? x = some _ at L2
  unfold Builtin.«int.__ne__»
  repeat lk
  exact hq
theorem dec_bool_ne {Q : Fin → Shared → Prop} {a : Bool} (I : PySem.W.InstAt s.heap x (PySem.W.instObj C dx) C od) (hq : Q (.done (.ret .notImplemented)) s) :
    wpAny M A (Builtin.«int.__ne__» ⟨[.bool a, .ref x], []⟩) Q E s := by
  have L2 := I.at_
  obtain ⟨hh, g, dr, tk, os⟩ := s
  change hh.get? x = some _ at L2
  unfold Builtin.«int.__ne__»
  repeat lk
  exact hq
theorem dec_str_ne {Q : Fin → Shared → Prop} {a : Str} {t : Tok} (I : PySem.W.InstAt s.heap x (PySem.W.instObj C dx) C od) (hq : Q (.done (.ret .notImplemented)) s) :
    wpAny M A (Builtin.«str.__ne__» ⟨[.str a t, .ref x], []⟩) Q E s := by
  have L2 := I.at_
  obtain ⟨hh, g, dr, tk, os⟩ := s
  change hh.get? x = some _ at L2
  unfold Builtin.«str.__ne__»
  repeat lk
  exact hq
end
end HN2
namespace HN2
open PySem PySem.Spec PyProof.Rows PySem.SeqAt
section
variable {prog : Program} {w : World} {A : Around} {E : Value → Shared → Prop} {s : Shared} {K : PySem.W.Frag} {x C dx : Addr} {od : Option Obj}
/-- the left one declines -/
def Dec (prog : Program) (w : World) (A : Around) (op : CmpOp) (b : Value) (x : Addr) (s : Shared) : Prop := ∀ E : Value → Shared → Prop, wpAny (model prog w) A (tryCompare b (cmpInfo op).2.1 (.ref x)) (fun r s' => r = none ∧ s' = s) E s
theorem try_tuple_eq {t : Addr} (hT : s.TypeIs (.ref t) "tuple") (X : K.In s.heap) (I : PySem.W.InstAt s.heap x (PySem.W.instObj C dx) C od) (hn : PySem.W.subIn K (.ref C) (.type "tuple") = some false) : Dec prog w A .Eq (.ref t) x s := fun E =>
  wpAny_tryCompare_declines hT F.slot_tuple_eq (GQ.call_here F.slot_tuple_eq hT F.entry_tuple_eq (F.args_tuple_eq_2 _ _) (dec_tuple_eq X I hn ⟨rfl, rfl, rfl⟩))
theorem try_list_eq {t : Addr} (hT : s.TypeIs (.ref t) "list") (X : K.In s.heap) (I : PySem.W.InstAt s.heap x (PySem.W.instObj C dx) C od) (hn : PySem.W.subIn K (.ref C) (.type "list") = some false) : Dec prog w A .Eq (.ref t) x s := fun E =>
  wpAny_tryCompare_declines hT F.slot_list_eq (GQ.call_here F.slot_list_eq hT F.entry_list_eq (F.args_list_eq_2 _ _) (dec_list_eq X I hn ⟨rfl, rfl, rfl⟩))
theorem try_dict_eq {t : Addr} (hT : s.TypeIs (.ref t) "dict") (X : K.In s.heap) (I : PySem.W.InstAt s.heap x (PySem.W.instObj C dx) C od) (hn : PySem.W.subIn K (.ref C) (.type "dict") = some false) : Dec prog w A .Eq (.ref t) x s := fun E =>
  wpAny_tryCompare_declines hT F.slot_dict_eq (GQ.call_here F.slot_dict_eq hT F.entry_dict_eq (F.args_dict_eq_2 _ _) (dec_dict_eq X I hn ⟨rfl, rfl, rfl⟩))
theorem try_int_eq {a : Int} {t : Tok} (I : PySem.W.InstAt s.heap x (PySem.W.instObj C dx) C od) : Dec prog w A .Eq (.int a t) x s := fun E =>
  wpAny_tryCompare_declines (show s.TypeIs (.int a t) "int" from rfl) F.slot_int_eq (GQ.call_here F.slot_int_eq (show s.TypeIs (.int a t) "int" from rfl) F.entry_int_eq (F.args_int_eq_2 _ _) (dec_int_eq I ⟨rfl, rfl, rfl⟩))
theorem try_bool_eq {a : Bool} (I : PySem.W.InstAt s.heap x (PySem.W.instObj C dx) C od) : Dec prog w A .Eq (.bool a) x s := fun E =>
  wpAny_tryCompare_declines (show s.TypeIs (.bool a) "bool" from rfl) F.slot_bool_eq (GQ.call_here F.slot_bool_eq (show s.TypeIs (.bool a) "bool" from rfl) F.entry_int_eq (F.args_int_eq_2 _ _) (dec_bool_eq I ⟨rfl, rfl, rfl⟩))
theorem try_str_eq {a : Str} {t : Tok} (I : PySem.W.InstAt s.heap x (PySem.W.instObj C dx) C od) : Dec prog w A .Eq (.str a t) x s := fun E =>
  wpAny_tryCompare_declines (show s.TypeIs (.str a t) "str" from rfl) F.slot_str_eq (GQ.call_here F.slot_str_eq (show s.TypeIs (.str a t) "str" from rfl) F.entry_str_eq (F.args_str_eq_2 _ _) (dec_str_eq I ⟨rfl, rfl, rfl⟩))
theorem try_none_eq : Dec prog w A .Eq .none x s := fun E =>
  wpAny_tryCompare_declines (show s.TypeIs .none "NoneType" from rfl) F.slot_NoneType_eq (call_gives F.slot_NoneType_eq rfl F.entry_NoneType_eq (F.args_NoneType_eq_2 _ _) (NoneType___eq___none_ref_0 x) ⟨rfl, rfl, rfl⟩)
theorem try_tuple_ne {t : Addr} (hT : s.TypeIs (.ref t) "tuple") (X : K.In s.heap) (I : PySem.W.InstAt s.heap x (PySem.W.instObj C dx) C od) (hn : PySem.W.subIn K (.ref C) (.type "tuple") = some false) : Dec prog w A .NotEq (.ref t) x s := fun E =>
  wpAny_tryCompare_declines hT F.slot_tuple_ne (GQ.call_here F.slot_tuple_ne hT F.entry_tuple_ne (F.args_tuple_ne_2 _ _) (dec_tuple_ne X I hn ⟨rfl, rfl, rfl⟩))
theorem try_list_ne {t : Addr} (hT : s.TypeIs (.ref t) "list") (X : K.In s.heap) (I : PySem.W.InstAt s.heap x (PySem.W.instObj C dx) C od) (hn : PySem.W.subIn K (.ref C) (.type "list") = some false) : Dec prog w A .NotEq (.ref t) x s := fun E =>
  wpAny_tryCompare_declines hT F.slot_list_ne (GQ.call_here F.slot_list_ne hT F.entry_list_ne (F.args_list_ne_2 _ _) (dec_list_ne X I hn ⟨rfl, rfl, rfl⟩))
theorem try_dict_ne {t : Addr} (hT : s.TypeIs (.ref t) "dict") (X : K.In s.heap) (I : PySem.W.InstAt s.heap x (PySem.W.instObj C dx) C od) (hn : PySem.W.subIn K (.ref C) (.type "dict") = some false) : Dec prog w A .NotEq (.ref t) x s := fun E =>
  wpAny_tryCompare_declines hT F.slot_dict_ne (GQ.call_here F.slot_dict_ne hT F.entry_dict_ne (F.args_dict_ne_2 _ _) (dec_dict_ne X I hn ⟨rfl, rfl, rfl⟩))
theorem try_int_ne {a : Int} {t : Tok} (I : PySem.W.InstAt s.heap x (PySem.W.instObj C dx) C od) : Dec prog w A .NotEq (.int a t) x s := fun E =>
  wpAny_tryCompare_declines (show s.TypeIs (.int a t) "int" from rfl) F.slot_int_ne (GQ.call_here F.slot_int_ne (show s.TypeIs (.int a t) "int" from rfl) F.entry_int_ne (F.args_int_ne_2 _ _) (dec_int_ne I ⟨rfl, rfl, rfl⟩))
theorem try_bool_ne {a : Bool} (I : PySem.W.InstAt s.heap x (PySem.W.instObj C dx) C od) : Dec prog w A .NotEq (.bool a) x s := fun E =>
  wpAny_tryCompare_declines (show s.TypeIs (.bool a) "bool" from rfl) F.slot_bool_ne (GQ.call_here F.slot_bool_ne (show s.TypeIs (.bool a) "bool" from rfl) F.entry_int_ne (F.args_int_ne_2 _ _) (dec_bool_ne I ⟨rfl, rfl, rfl⟩))
theorem try_str_ne {a : Str} {t : Tok} (I : PySem.W.InstAt s.heap x (PySem.W.instObj C dx) C od) : Dec prog w A .NotEq (.str a t) x s := fun E =>
  wpAny_tryCompare_declines (show s.TypeIs (.str a t) "str" from rfl) F.slot_str_ne (GQ.call_here F.slot_str_ne (show s.TypeIs (.str a t) "str" from rfl) F.entry_str_ne (F.args_str_ne_2 _ _) (dec_str_ne I ⟨rfl, rfl, rfl⟩))
theorem try_none_ne : Dec prog w A .NotEq .none x s := fun E =>
  wpAny_tryCompare_declines (show s.TypeIs .none "NoneType" from rfl) F.slot_NoneType_ne (call_gives F.slot_NoneType_ne rfl F.entry_NoneType_ne (F.args_NoneType_ne_2 _ _) (NoneType___ne___none_ref_0 x) ⟨rfl, rfl, rfl⟩)
end
end HN2
namespace L2
open PySem PySem.Spec PyProof.Rows
/-- a thing that is no instance: its kind -/
inductive KindV (K : PySem.W.Frag) (H : Hp) : V → String → Prop where
  | non : KindV K H .non "NoneType"
  | bl (x : Bool) : KindV K H (.bl x) "bool"
  | int (i : Int) : KindV K H (.int i) "int"
  | str (x : Str) : KindV K H (.str x) "str"
  | tup {a : Addr} {xs : List V} (e : SqT K H a xs) : KindV K H (.ref a) "tuple"
  | lst {a : Addr} {xs : List V} (e : SqL K H a xs) : KindV K H (.ref a) "list"
  | dct {a : Addr} (e : TyX K H (.ref a) (.type "dict")) : KindV K H (.ref a) "dict"
section
variable {X : Cx} {pins : List (Addr × Obj)} {σ : St} {H : Hp} {s : Shared} {x : V} {u : Value} {T : String}
theorem kind_ty (I : Inv X pins σ H s) (r : RelV x u) (h : KindV X.K H x T) : s.TypeIs u T := by
  cases h with
  | non => cases (show u = Value.none from r); rfl
  | bl b => cases (show u = Value.bool b from r); rfl
  | int i => obtain ⟨t, e⟩ := (show ∃ t, u = Value.int i t from r); cases e; rfl
  | str b => obtain ⟨t, e⟩ := (show ∃ t, u = Value.str b t from r); cases e; rfl
  | tup e =>
    cases (show u = Value.ref _ from r)
    obtain ⟨its, _, ⟨o, e1, e2, _⟩, _⟩ := I.tuple e
    exact ⟨o, e1, e2⟩
  | lst e =>
    cases (show u = Value.ref _ from r)
    obtain ⟨its, _, p, _⟩ := I.list e
    obtain ⟨o, n, e1, e2, _⟩ := p
    exact ⟨o, e1, e2⟩
  | @dct a e =>
    cases (show u = Value.ref a from r)
    have key : ∀ (v : V) (t : Value), TyX X.K H v t → v = .ref a → t = .type "dict" → s.TypeIs (.ref a) "dict" := by
      intro v t ht e1 e2
      cases ht with
      | base b =>
        cases b with
        | @dK b kvs e =>
          cases e1
          obtain ⟨_, _, vs, _, o, es, ep, h1, h2, _⟩ := (show ObjOk X.prog X.w H s.heap a (.dK kvs) from I.hok a _ e)
          exact ⟨o, h1, h2.1⟩
        | @dT b kvs e =>
          cases e1
          obtain ⟨_, _, xs, _, o, es, ep, h1, h2, _⟩ := (show ObjOk X.prog X.w H s.heap a (.dT kvs) from I.hok a _ e)
          exact ⟨o, h1, h2.1⟩
        | _ => first | (cases e1; done) | (simp at e2)
      | kDict e c =>
        cases e1
        exact ⟨_, I.kIn a _ e, c⟩
      | @fDict b o kvs e =>
        cases e1
        obtain ⟨_, _, _, vs, _, o', es, ep, h1, h2, _⟩ := (show ObjOk X.prog X.w H s.heap a (.frz o (.dK kvs)) from I.hok a _ e)
        exact ⟨o', h1, h2.1⟩
      | _ => first | (cases e1; done) | (simp at e2)
    exact key _ _ e rfl rfl
theorem looks_kind {M : Model} (h : s.TypeIs u T) : PySem.W.Looks M s.heap (typeOf u) (.type T) := by
  intro A Q E s' k q
  cases u with
  | ref a =>
    obtain ⟨o, e, c⟩ := h
    exact wpAny_typeOf (show s'.TypeIs (.ref a) T from ⟨o, k _ _ e, c⟩) q
  | _ => exact wpAny_typeOf (s := s') (by exact h) q
theorem one_none {op : CmpOp} {a : Addr} (r : RelV x u) (h : KindV X.K H x T) : oneThing? op u (.ref a) = none := by
  cases h with
  | non => cases (show u = Value.none from r); rfl
  | bl b => cases (show u = Value.bool b from r); rfl
  | int i => obtain ⟨t, e⟩ := (show ∃ t, u = Value.int i t from r); cases e; rfl
  | str b => obtain ⟨t, e⟩ := (show ∃ t, u = Value.str b t from r); cases e; rfl
  | tup e => cases (show u = Value.ref _ from r); rfl
  | lst e => cases (show u = Value.ref _ from r); rfl
  | dct e => cases (show u = Value.ref _ from r); rfl
theorem kind_dec {A : Around} {x' C dx : Addr} {od : Option Obj} {neg : Bool} (I : Inv X pins σ H s) (r : RelV x u) (h : KindV X.K H x T) (J : PySem.W.InstAt s.heap x' (PySem.W.instObj C dx) C od) (hn : PySem.W.subIn X.K (.ref C) (.type T) = some false) :
    HN2.Dec X.prog X.w A (if neg then .NotEq else .Eq) u x' s := by
  have ty := kind_ty I r h
  cases neg with
  | true =>
    show HN2.Dec X.prog X.w A .NotEq u x' s
    cases h with
    | non => cases (show u = Value.none from r); exact HN2.try_none_ne
    | bl b => cases (show u = Value.bool b from r); exact HN2.try_bool_ne J
    | int i => obtain ⟨t, e⟩ := (show ∃ t, u = Value.int i t from r); cases e; exact HN2.try_int_ne J
    | str b => obtain ⟨t, e⟩ := (show ∃ t, u = Value.str b t from r); cases e; exact HN2.try_str_ne J
    | tup e => cases (show u = Value.ref _ from r); exact HN2.try_tuple_ne ty I.kIn J hn
    | lst e => cases (show u = Value.ref _ from r); exact HN2.try_list_ne ty I.kIn J hn
    | dct e => cases (show u = Value.ref _ from r); exact HN2.try_dict_ne ty I.kIn J hn
  | false =>
    show HN2.Dec X.prog X.w A .Eq u x' s
    cases h with
    | non => cases (show u = Value.none from r); exact HN2.try_none_eq
    | bl b => cases (show u = Value.bool b from r); exact HN2.try_bool_eq J
    | int i => obtain ⟨t, e⟩ := (show ∃ t, u = Value.int i t from r); cases e; exact HN2.try_int_eq J
    | str b => obtain ⟨t, e⟩ := (show ∃ t, u = Value.str b t from r); cases e; exact HN2.try_str_eq J
    | tup e => cases (show u = Value.ref _ from r); exact HN2.try_tuple_eq ty I.kIn J hn
    | lst e => cases (show u = Value.ref _ from r); exact HN2.try_list_eq ty I.kIn J hn
    | dct e => cases (show u = Value.ref _ from r); exact HN2.try_dict_eq ty I.kIn J hn
end
/-- what a class with an own == and no other != must have -/
structure OwnCmp (K : PySem.W.Frag) (C g : Addr) : Prop where
  eq : PySem.W.findIn K (.ref C) "__eq__" = some (some (.ref g))
  ne : PySem.W.findIn K (.ref C) "__ne__" = some (some (.builtin "object.__ne__"))
  fn : PySem.W.isFn K (.ref g) = true
  top : PySem.W.mroIn K C (.type "object") = some true
/-- == (or !=) of an instance of the class at C with anything, either way round -/
def rCmpO (K : PySem.W.Frag) (C : Addr) (sp : Sp) (E : XK) (neg : Bool) : R2 := fun x y H Q => ∃ a dx fs, H a = some (.ins C dx fs) ∧
  ((x = .ref a ∧ ((∃ T, KindV K H y T ∧ PySem.W.notFirst K C (.type T) = true) ∨ (∃ b C' dy gs, y = .ref b ∧ H b = some (.ins C' dy gs) ∧ PySem.W.notFirst K C (.ref C') = true)) ∧
      sp [x, y] H (fun z H' => ∃ k, z = .bl k ∧ Q (.bl (if neg then !k else k)) H') E) ∨
    (y = .ref a ∧ (∃ T, KindV K H x T ∧ PySem.W.subIn K (.ref C) (.type T) = some false) ∧ sp [y, x] H (fun z H' => ∃ k, z = .bl k ∧ Q (.bl (if neg then !k else k)) H') E))
section
variable {X : Cx} {CX : CXT} {C g : Addr} {n : Nat} {sp : Sp} {E : XK}
theorem ifO (neg : Bool) : (cmpInfo (if neg then CmpOp.NotEq else .Eq)).2.1 = (if neg then Str.ofString "__ne__" else Str.ofString "__eq__") := by cases neg <;> rfl
theorem ifO2 (neg : Bool) : (cmpInfo (if neg then CmpOp.NotEq else .Eq)).2.2 = (if neg then Str.ofString "__ne__" else Str.ofString "__eq__") := by cases neg <;> rfl
theorem try_own {pins : List (Addr × Obj)} {s : Shared} {σ : St} {H : Hp} {a dx : Addr} {od : Option Obj} {y : V} {u : Value} {neg : Bool} {Q : VK} (c : OwnCmp X.K C g) (F : FnR X.prog X.w X.K X.mg X.base CX n g sp) (hr : Room (n + 1) X.A) (hx : Passes CX X E)
    (I : Inv X pins σ H s) (J : PySem.W.InstAt s.heap a (PySem.W.instObj C dx) C od) (ry : RelV y u) (q : sp [.ref a, y] H (fun z H' => ∃ k, z = .bl k ∧ Q (.bl (if neg then !k else k)) H') E) :
    wpAny (model X.prog X.w) X.A (tryCompare (.ref a) (if neg then Str.ofString "__ne__" else Str.ofString "__eq__") u) (fun r s' => ∃ v, r = some v ∧ EP X pins σ Q v s') X.xe s := by
  have back : ∀ (v : Value) (s' : Shared), EP X pins σ (fun z H' => ∃ k, z = .bl k ∧ Q (.bl (if neg then !k else k)) H') v s' → ∃ k, v = .bool k ∧ EP X pins σ Q (.bool (if neg then !k else k)) s' := fun v s' h => by
    obtain ⟨z, H', I', rz, k, e, q⟩ := h
    subst e
    cases (show v = Value.bool k from rz)
    exact ⟨k, rfl, V.bl (if neg then !k else k), H', I', (show Value.bool _ = Value.bool _ from rfl), q⟩
  cases neg with
  | false =>
    refine HN2.try_eqK I.kIn J c.eq c.fn (wpAny_mono (wpAny_call (run_fnR (us := [.ref a, u]) (vs := [.ref a, y]) F (hr.mono (by omega)) hx I (.cons rfl (.cons ry .nil)) q)) (fun v s' h => ?_) fun _ _ e => e)
    obtain ⟨k, ek, h2⟩ := back v s' h
    subst ek
    exact ⟨k, rfl, _, rfl, h2⟩
  | true =>
    refine HN2.try_neK hr.in1.units0 I.kIn J c.top c.ne c.eq c.fn (wpAny_mono (wpAny_call (SlX.run_at (us := [.ref a, u]) (ws := [.ref a, y]) F hr.in1 I.env0.in1 hx I (.cons rfl (.cons ry .nil)) q)) (fun v s' h => ?_) fun _ _ e => e)
    obtain ⟨k, ek, h2⟩ := back v s' h
    subst ek
    exact ⟨k, rfl, _, rfl, h2⟩
theorem op_cmpO {neg : Bool} (c : OwnCmp X.K C g) (F : FnR X.prog X.w X.K X.mg X.base CX n g sp) (hr : Room (n + 1) X.A) (hx : Passes CX X E) : OpR X (compareOp (if neg then .NotEq else .Eq)) (rCmpO X.K C sp E neg) := by
  intro pins s σ H x y v u Q I rx ry h
  obtain ⟨a, dx, fs, ha, h⟩ := h
  obtain ⟨mA, J0, _⟩ := ins_get I.hok ha
  obtain ⟨od, J, _⟩ := J0.look
  have hop : compareOp (if neg then .NotEq else .Eq) v u = richCompare (if neg then .NotEq else .Eq) v u := by cases neg <;> rfl
  rw [hop]
  rcases h with ⟨rfl, hy, q⟩ | ⟨rfl, ⟨T, hk, hn⟩, q⟩
  · cases (show v = Value.ref a from rx)
    rcases hy with ⟨T, hk, hn⟩ | ⟨b, C', dy, gs, rfl, hb, hn⟩
    · refine HN2.rc_left hr.units0 I.kIn J (looks_kind (kind_ty I ry hk)) hn ?_
      rw [ifO]
      exact try_own c F hr hx I J ry q
    · cases (show u = Value.ref b from ry)
      obtain ⟨mB, J1, _⟩ := ins_get I.hok hb
      obtain ⟨od', J', _⟩ := J1.look
      refine HN2.rc_left hr.units0 I.kIn J J'.type hn ?_
      rw [ifO]
      exact try_own c F hr hx I J (show RelV (.ref b) (Value.ref b) from rfl) q
  · cases (show u = Value.ref a from ry)
    refine HN2.rc_right hr.units0 I.kIn J (kind_ty I rx hk) hn (one_none rx hk) (kind_dec I rx hk J hn _) ?_
    rw [ifO2]
    exact try_own c F hr hx I J rx q
end
end L2
namespace L3
open PySem PySem.Spec PyProof.Rows L2
variable [TB : TabT]
variable {K : PySem.W.Frag} {W : WX}
def kindNames : List String := ["NoneType", "bool", "int", "str", "tuple", "list", "dict"]
theorem sub_bi {T : String} {C : Addr} (h : T ∈ kindNames) : PySem.W.subIn K (.type T) (.ref C) = some false := by
  have key : ∀ (T : String) (l : List Value), fastBuiltinMro T = some l → (∀ v ∈ l, ∀ a, v ≠ .ref a) → PySem.W.subIn K (.type T) (.ref C) = some false := fun T l e hl => by
    show (fastBuiltinMro T).map (·.contains (.ref C)) = some false
    rw [e]
    have : l.contains (.ref C) = false := by
      rw [← Bool.not_eq_true, List.contains_iff_mem]
      exact fun m => hl _ m C rfl
    show some (l.contains (.ref C)) = some false
    rw [this]
  simp only [kindNames, List.mem_cons, List.not_mem_nil, or_false] at h
  rcases h with rfl | rfl | rfl | rfl | rfl | rfl | rfl
  · exact key _ [.type "NoneType", .type "object"] (by decide +kernel) (by simp)
  · exact key _ [.type "bool", .type "int", .type "object"] (by decide +kernel) (by simp)
  · exact key _ [.type "int", .type "object"] (by decide +kernel) (by simp)
  · exact key _ [.type "str", .type "object"] (by decide +kernel) (by simp)
  · exact key _ [.type "tuple", .type "object"] (by decide +kernel) (by simp)
  · exact key _ [.type "list", .type "object"] (by decide +kernel) (by simp)
  · exact key _ [.type "dict", .type "object"] (by decide +kernel) (by simp)
/-- things that are no instance, of the kinds above -/
def BltD : D → Prop
  | .non | .bl _ | .int _ | .str _ | .tup _ | .lst _ | .fl _ => True
  | .oth (.type "dict") => True
  | _ => False
theorem blt_kind {F H : Hp} {v : V} {d : D} (s : Same F H) (r : Rep K F v d) (h : BltD d) : ∃ T, T ∈ kindNames ∧ KindV K H v T := by
  have r := r.mono s
  cases r with
  | non => exact ⟨_, by simp [kindNames], .non⟩
  | bl b => exact ⟨_, by simp [kindNames], .bl b⟩
  | int b => exact ⟨_, by simp [kindNames], .int b⟩
  | str b => exact ⟨_, by simp [kindNames], .str b⟩
  | tup a _ => exact ⟨_, by simp [kindNames], .tup a⟩
  | lst a _ => exact ⟨_, by simp [kindNames], .lst (.inl (.inl a))⟩
  | fl a _ => exact ⟨_, by simp [kindNames], .lst a⟩
  | ty _ => exact h.elim
  | adr _ => exact h.elim
  | dc _ _ => exact h.elim
  | dtc _ _ => exact h.elim
  | oth t =>
    unfold BltD at h
    split at h
    · cases ‹D.oth _ = _›
    · cases ‹D.oth _ = _›
    · cases ‹D.oth _ = _›
    · cases ‹D.oth _ = _›
    · cases ‹D.oth _ = _›
    · cases ‹D.oth _ = _›
    · cases ‹D.oth _ = _›
    · rename_i e
      cases e
      exact ⟨_, by simp [kindNames], .dct t⟩
    · exact h.elim
  | ins _ _ => exact h.elim
/-- no built-in kind is below the class -/
def NoSub (K : PySem.W.Frag) (C : Addr) : Prop := ∀ T ∈ kindNames, PySem.W.subIn K (.ref C) (.type T) = some false
/-- == or != of an instance (of the class at C) with anything, either way round, over data -/
def gCmpO (K : PySem.W.Frag) (C : Addr) (fs : FS) (neg : Bool) : D → D → (D → Prop) → Prop := fun d1 d2 q => ∃ gs,
  (d1 = .ins C gs ∧ (BltD d2 ∨ ∃ C' gs', d2 = .ins C' gs' ∧ PySem.W.notFirst K C (.ref C') = true) ∧ fs [.dat d1, .dat d2] (fun d _ => ∃ k, d = .bl k ∧ q (.bl (if neg then !k else k))) (fun _ _ => False)) ∨
  (d2 = .ins C gs ∧ BltD d1 ∧ NoSub K C ∧ fs [.dat d2, .dat d1] (fun d _ => ∃ k, d = .bl k ∧ q (.bl (if neg then !k else k))) (fun _ _ => False))
/-- an operation that may call defs of the text -/
def Op2T (K : PySem.W.Frag) (r : R2) (g : D → D → (D → Prop) → Prop) : Prop :=
  ∀ (F H F0 H0 : Hp) (σ : L2.St) (τ τ0 : List Cell) (v1 v2 : V) (d1 d2 : D) (q : D → Prop) (Q : VK), To K F0 H0 σ τ0 F H τ → Rep K F v1 d1 → Rep K F v2 d2 → g d1 d2 q →
    (∀ v d F' H', To K F0 H0 σ τ0 F' H' τ → Rep K F' v d → q d → Q v H') → r v1 v2 H Q
theorem de_opT {r : R2} {g : D → D → (D → Prop) → Prop} {ta tb : TE} {wa wb : EW} (o : Op2T K r g) (ha : DE K W ta wa) (hb : DE K W tb wb) : DE K W (tOp r ta tb) (wOp g wa wb) := by
  refine ⟨fun σ H τ F Q q e S h k x => ?_⟩
  refine ha.run σ H τ F _ _ e S h (fun v1 d1 τ1 F1 H1 t1 r1 h1 => ?_) x
  refine hb.run σ H1 τ1 F1 _ _ e t1.ok h1 (fun v2 d2 τ2 F2 H2 t2 r2 h2 => ?_) (x.of t1)
  exact o F2 H2 F H σ τ2 τ v1 v2 d1 d2 _ Q (t1.trans t2) (r1.mono t2.ext.f) r2 h2 fun v d F' H' T r hq => k v d τ2 F' H' T r hq
def rOr (r1 r2 : R2) : R2 := fun x y H Q => r1 x y H Q ∨ r2 x y H Q
def gOr (g1 g2 : D → D → (D → Prop) → Prop) : D → D → (D → Prop) → Prop := fun x y q => g1 x y q ∨ g2 x y q
theorem o_or {r1 r2 : R2} {g1 g2 : D → D → (D → Prop) → Prop} (h1 : Op2T K r1 g1) (h2 : Op2T K r2 g2) : Op2T K (rOr r1 r2) (gOr g1 g2) := fun F H F0 H0 σ τ τ0 v1 v2 d1 d2 q Q t a b h k =>
  h.elim (fun h => .inl (h1 F H F0 H0 σ τ τ0 v1 v2 d1 d2 q Q t a b h k)) fun h => .inr (h2 F H F0 H0 σ τ τ0 v1 v2 d1 d2 q Q t a b h k)
theorem op_or {X : Cx} {f : Value → Value → Sem Value} {r1 r2 : R2} (h1 : OpR X f r1) (h2 : OpR X f r2) : OpR X f (rOr r1 r2) := fun pins s σ H x y v u Q I a b h =>
  h.elim (h1 pins s σ H x y v u Q I a b) (h2 pins s σ H x y v u Q I a b)
theorem cmp_sp {F H F0 H0 : Hp} {σ : L2.St} {τ τ0 : List Cell} {v1 v2 : V} {d1 d2 : D} {fs : FS} {q : D → Prop} {Q : VK} {E : XK} (t : To K F0 H0 σ τ0 F H τ) (r1 : Rep K F v1 d1) (r2 : Rep K F v2 d2)
    (h : fs [.dat d1, .dat d2] (fun d _ => q d) (fun _ _ => False)) (k : ∀ v d F' H', To K F0 H0 σ τ0 F' H' τ → Rep K F' v d → q d → Q v H') : spOf K 2 fs [v1, v2] H Q E := by
  have a : ArgsOk K F σ [v1, v2] [.d d1, .d d2] := .d r1 (.d r2 .nil)
  refine ⟨rfl, F, [.dat d1, .dat d2], _, _, pre_call t a List.nodup_nil, h, fun v d cs' F2 H2 x2 s2 c2 r2 hq => ?_, fun y cls dx cs' F2 H2 x2 s2 c2 r2 hq => hq.elim⟩
  have T := call_to (as := [.d d1, .d d2]) t List.nodup_nil trivial x2 s2 c2
  have e : putBack τ [.d d1, .d d2] cs' = τ := by
    cases cs' with
    | nil => simp [putBack]
    | cons c cs => cases cs <;> simp [putBack]
  rw [e] at T
  exact k v d F2 H2 T r2 hq
theorem o_cmpO {C : Addr} {fs : FS} {neg : Bool} {E : XK} : Op2T K (rCmpO K C (spOf K 2 fs) E neg) (gCmpO K C fs neg) := by
  intro F2 H2 F H σ τ2 τ v1 v2 d1 d2 q Q t r1 r2 h2 k
  obtain ⟨gs, ⟨rfl, hy, hf⟩ | ⟨rfl, hy, hn, hf⟩⟩ := h2
  · have rr := r1.mono t.ok.sub
    have r1c := r1
    cases rr with
    | @ins a _ dx fv _ ea _ =>
      refine ⟨a, dx, fv, ea, .inl ⟨rfl, ?_, ?_⟩⟩
      · rcases hy with hy | ⟨C', gs', rfl, hn⟩
        · obtain ⟨T, hT, hk⟩ := blt_kind t.ok.sub r2 hy
          refine .inl ⟨T, hk, ?_⟩
          unfold PySem.W.notFirst
          rw [sub_bi hT]
          simp
        · have rr2 := r2.mono t.ok.sub
          cases rr2 with
          | @ins b _ dy fw _ eb _ => exact .inr ⟨b, C', dy, fw, rfl, eb, hn⟩
      · refine cmp_sp t r1c r2 hf fun v d F' H' T r hq => ?_
        obtain ⟨kk, rfl, hq⟩ := hq
        cases r
        exact ⟨kk, rfl, k _ _ F' H' T (.bl _) hq⟩
  · have rr := r2.mono t.ok.sub
    have r2c := r2
    cases rr with
    | @ins a _ dx fv _ ea _ =>
      obtain ⟨T, hT, hk⟩ := blt_kind t.ok.sub r1 hy
      refine ⟨a, dx, fv, ea, .inr ⟨rfl, ⟨T, hk, hn T hT⟩, ?_⟩⟩
      refine cmp_sp t r2c r1 hf fun v d F' H' T r hq => ?_
      obtain ⟨kk, rfl, hq⟩ := hq
      cases r
      exact ⟨kk, rfl, k _ _ F' H' T (.bl _) hq⟩
end L3

/-! ## isinstance with a class of the text -/
namespace L3
open PySem PySem.Spec PyProof.Rows L2
variable [TB : TabT]
variable {K : PySem.W.Frag} {W : WX}

def gIsiC (K : PySem.W.Frag) (C : Addr) : D → (D → Prop) → Prop := fun d q => ∃ b, ((noTy d ∧ PySem.W.kitOne K (tyD d) (.ref C) = some b) ∨ (∃ C' gs, d = .ins C' gs ∧ InsTy K C' ∧ PySem.W.kitOne K (.ref C') (.ref C) = some b)) ∧ q (.bl b)
def wIsiC (C : Addr) (K : PySem.W.Frag) (wa : EW) : EW := fun τ q e => wa τ (fun d τ' => gIsiC K C d fun d' => q d' τ') e
theorem de_isiC {C : Addr} {ta : TE} {wa : EW} (ha : DE K W ta wa) : DE K W (tCB (rIsi K) (tCons ta (tCons (tC (.ref C)) tNil))) (wIsiC C K wa) := by
  refine ⟨fun σ H τ F Q q e S h k x => ?_⟩
  refine ha.run σ H τ F _ _ e S h (fun v d τ1 F1 H1 t1 r1 h1 => ?_) x
  obtain ⟨b, ht, hq⟩ := h1
  have fin : Q (.bl b) H1 := k (.bl b) (.bl b) τ1 F1 H1 t1 (.bl b) hq
  rcases ht with ⟨nt, e1⟩ | ⟨C', gs, rfl, c, e1⟩
  · exact ⟨v, .ref C, tyD d, .ref C, b, rfl, .own C, TyX_mono t1.ok.sub (r1.tyX nt), e1, fin⟩
  · have rr := r1.mono t1.ok.sub
    cases rr with
    | @ins a _ dx fv _ ea _ => exact ⟨.ref a, .ref C, .ref C', .ref C, b, rfl, .own C, .base (.ins ea c.cl c.ha c.hn c.ht c.hm), e1, fin⟩
end L3

namespace L2
open PySem PySem.Spec PyProof.Rows
theorem fnR0 {P : Program} {w : World} {K : PySem.W.Frag} {mg : Str → Option Value} {base : Heap} {CX : CXT} {k : Nat} {f : Addr} {sp : Sp} {fd : FuncData} {ps : List Str} (F : FnOk P w K mg base CX k f fd ps sp) (hb : Binds K fd ps []) : FnR P w K mg base CX k f sp :=
  (F.raw hb .nil).imp fun vs H Q E h => by rw [List.append_nil]; exact h
end L2

/-! ## the pool, while, pop, remove, lists of one's own out of others, try .. except -/
namespace L3
open PySem PySem.Spec PyProof.Rows L2
variable [TB : TabT]
section
variable {K : PySem.W.Frag} {W : WX}
/-- a cell is exchanged -/
theorem SOk.change {F H : Hp} {σ : L2.St} {τ : List Cell} {i : Nat} {c c' : Cell} (S : SOk K F H σ τ) (h : τ[i]? = some c) (co : CellOk K F H c') (sl : ∀ s, SlotOk K F s c → SlotOk K F s c') (less : ∀ a, Has c' a → Has c a ∨ ¬ IsOwn τ a) : SOk K F H σ (τ.set i c') := by
  refine ⟨S.tabs, S.sub, by rw [List.length_set]; exact S.len, fun j s d h1 h2 => ?_, fun j d e => ?_, S.inj.set fun a f j d nj e f2 => ?_⟩
  · rcases set_get h2 with ⟨rfl, rfl, _⟩ | ⟨_, h2⟩
    · exact sl s (S.slot j s _ h1 h)
    · exact S.slot j s d h1 h2
  · rcases set_get e with ⟨_, rfl, _⟩ | ⟨_, e⟩
    · exact co
    · exact S.own j d e
  · rcases less a f with z | z
    · exact nj (S.inj j i d c a e h f2 z)
    · exact z ⟨j, d, e, f2⟩
/-- x = y[2], y the pool: its list is a name's own as long as it is handed about -/
def wPoolOpen (i j : Nat) : SW := fun E τ => i ≠ j ∧ j < τ.length ∧ ∃ p a b q ns, τ[i]? = some (.own p (.pool a b q ns)) ∧ E.nx ((τ.set i (.own p (.lst [.int a, .int b, .adr q]))).set j (.own q (.lst (ns.map D.int))))
theorem ds_poolOpen {i j : Nat} : DS K W (tAsg (tOp (rIx K) (tVar i) (tC (.int 2))) (gName j)) (wPoolOpen i j) := by
  refine ⟨fun σ H τ F Dn E S ⟨hij, hj, p, a, b, q, ns, e0, hq⟩ o => ?_⟩
  have hi : i < σ.length := by rw [S.len]; exact (List.getElem?_eq_some_iff.mp e0).1
  have s0 : σ[i] = some (.ref p) := S.slot i σ[i] _ (List.getElem?_eq_getElem hi) e0
  obtain ⟨hF, vs, hH, hR, hn, fq, hq2⟩ := S.own i _ e0
  cases hR
  refine ⟨.ref p, by rw [List.getElem?_eq_getElem hi, s0], .inl ⟨p, _, 2, .ref q, rfl, rfl, .inl (.inl hH), rfl, ?_⟩⟩
  have S1 : SOk K F H σ (τ.set i (.own p (.lst [.int a, .int b, .adr q]))) := S.change e0 ⟨hF, _, hH, .lst (.cons (.int _) (.cons (.int _) (.cons (.adr _) .nil))), trivial⟩ (fun s h => h) fun x f => .inl (.inl (flat_has (k := .lst [.int a, .int b, .adr q]) trivial f))
  have nq : ¬ IsOwn (τ.set i (.own p (.lst [.int a, .int b, .adr q]))) q := fun ⟨k, d, e, f⟩ => by
    rcases set_get e with ⟨_, rfl, _⟩ | ⟨nk, e⟩
    · exact hn (flat_has (k := .lst [.int a, .int b, .adr q]) trivial f)
    · exact nk (S.inj k i d _ q e e0 f (.inr rfl))
  have S2 : SOk K F H (σ.set j (some (.ref q))) ((τ.set i (.own p (.lst [.int a, .int b, .adr q]))).set j (.own q (.lst (ns.map D.int)))) :=
    S1.setOwn (.flat trivial fq hq2 (.lst .ints)) fun x f => by rw [flat_has (k := .lst (ns.map D.int)) trivial f]; exact nq
  refine o.nx _ _ F H ⟨.refl _ _ _, fun x ⟨k, d, e, f⟩ => .inl ?_, S2⟩ hq
  rcases set_get e with ⟨_, rfl, _⟩ | ⟨_, e⟩
  · rw [flat_has (k := .lst (ns.map D.int)) trivial f]
    exact ⟨i, _, e0, .inr rfl⟩
  · rcases set_get e with ⟨_, rfl, _⟩ | ⟨_, e⟩
    · rw [flat_has (k := .lst [.int a, .int b, .adr q]) trivial f]
      exact isOwn_at e0
    · exact ⟨k, d, e, f⟩
/-- the pool is whole again, ahead of a statement -/
def wPoolClose (i j : Nat) (w : SW) : SW := fun E τ => i ≠ j ∧ ∃ p a b q ns, τ[i]? = some (.own p (.lst [.int a, .int b, .adr q])) ∧ τ[j]? = some (.own q (.lst (ns.map D.int))) ∧ w E ((τ.set j .any).set i (.own p (.pool a b q ns)))
theorem ds_poolClose {i j : Nat} {t : TS} {w : SW} (h : DS K W t w) : DS K W t (wPoolClose i j w) := by
  refine ⟨fun σ H τ F Dn E S ⟨hij, p, a, b, q, ns, e0, e1, hw⟩ o => ?_⟩
  obtain ⟨hF, vs, hH, hR, _⟩ := S.own i _ e0
  obtain ⟨fq, us, hq, hR2, _⟩ := S.own j _ e1
  cases hR2 with
  | @lst us _ r2 =>
    have := Reps.intsV r2
    subst this
    cases hR with
    | @lst vs _ r =>
      cases r with
      | cons r1 r =>
        cases r1
        cases r with
        | cons r1 r =>
          cases r1
          cases r with
          | cons r1 r =>
            cases r1
            cases r
            have hne : q ≠ p := fun z => hij (S.inj i j _ _ p e0 e1 (.inl rfl) (.inl z.symm))
            have S1 : SOk K F H σ (τ.set j .any) := S.change e1 trivial (fun _ _ => trivial) fun x f => f.elim
            have e2 : (τ.set j .any)[i]? = some (.own p (.lst [.int a, .int b, .adr q])) := by rw [List.getElem?_set_ne (Ne.symm hij)]; exact e0
            have nq : ¬ IsOwn (τ.set j .any) q := fun ⟨k, d, e, f⟩ => by
              rcases set_get e with ⟨_, rfl, _⟩ | ⟨nk, e⟩
              · exact f.elim
              · exact nk (S.inj k j d _ q e e1 f (.inl rfl))
            have S2 : SOk K F H σ ((τ.set j .any).set i (.own p (.pool a b q ns))) := S1.change e2 ⟨hF, _, hH, .pool, hne, fq, hq⟩ (fun s h => h) fun x f => f.elim (fun z => .inl (.inl z)) fun z => .inr (by rw [show x = q from z]; exact nq)
            have g : Grow τ H ((τ.set j .any).set i (.own p (.pool a b q ns))) := fun x ⟨k, d, e, f⟩ => .inl (by
              rcases set_get e with ⟨_, rfl, _⟩ | ⟨_, e⟩
              · rcases f with rfl | f
                · exact isOwn_at e0
                · rw [show x = q from f]; exact isOwn_at e1
              · rcases set_get e with ⟨_, rfl, _⟩ | ⟨_, e⟩
                · exact f.elim
                · exact ⟨k, d, e, f⟩)
            exact h.run σ H _ F Dn E S2 hw (o.of ⟨.refl _ _ _, g, S2⟩)
/-- return [a, b, [.. for ..]]: a pool -/
def wRetPool (wa wb : EW) (wI : IW) (wg : GW) (wt : TW) (we : EW) (vs : List Nat) : SW := fun E τ => wa τ (fun d1 τ1 => wb τ1 (fun d2 τ2 => ∃ a b, d1 = .int a ∧ d2 = .int b ∧ wI τ2 (fun ds τ3 => ds.length ≤ 1000 ∧ ∃ inv : Nat → List D → List Cell → Prop, inv 0 [] (wipeD τ3 vs) ∧
  (∀ i d acc τ4, ds[i]? = some d → inv i acc τ4 → acc.length ≤ i → wg d τ4 fun τ5 => wt τ5 (fun b τ6 => (b = true → we τ6 (fun y τ7 => inv (i + 1) (acc ++ [y]) (wipeD τ7 vs)) noX) ∧ (b = false → inv (i + 1) acc (wipeD τ6 vs))) noX) ∧
  ∀ acc τ4, inv ds.length acc (wipeD τ4 vs) → acc.length ≤ ds.length → ∃ ns, acc = ns.map D.int ∧ ∀ q, E.rf (.pool a b q ns) (wipeD τ4 vs)) E.ex) E.ex) E.ex
theorem ds_retPool {ta tb : TE} {wa wb : EW} {wi : TI} {g : TG} {tt : TT} {te : TE} {vs ws : List Nat} {wI : IW} {wg : GW} {wt : TW} {we : EW} (ha : DE K W ta wa) (hb : DE K W tb wb) (hi : DI K W wi wI) (hg : DG K ws g wg) (ht : DT K W0 tt wt) (he : DE K W0 te we) (hs : ∀ j ∈ ws, j ∈ vs) :
    DS K W (tRet (tLst (tCons ta (tCons tb (tCons (tLc wi g tt te vs) tNil))))) (wRetPool wa wb wI wg wt we vs) := by
  refine ⟨fun σ H τ F Dn E S hw o => ha.run σ H τ F _ _ E.ex S hw (fun v1 d1 τ1 F1 H1 t1 r1 hw1 => ?_) o.xto⟩
  refine hb.run σ H1 τ1 F1 _ _ E.ex t1.ok hw1 (fun v2 d2 τ2 F2 H2 t2 r2 ⟨a, b, e1, e2, hw2⟩ => ?_) (o.of t1).xto
  subst e1 e2
  have t12 := t1.trans t2
  refine hi.run σ H2 τ2 F2 _ _ E.ex t2.ok hw2 (fun J ds τ3 F3 H3 t3 it ⟨hn, inv, h0, hst, hd⟩ Da hD => ?_) (o.of t12).xto
  have t13 := t12.trans t3
  refine lc_turns hg ht he hs t3.ok it hD hn h0 hst fun accV acc F4 H4 τ4 T fD nD hH ra la hinv => ?_
  have T1 : To K F H σ τ F4 H4 (wipeD τ4 vs) := by
    refine t13.trans (To.at (τ1 := wipeD τ4 vs) T ?_ fun p h => h)
    rw [← wipeD_idem]
    exact T.ok.wiped (by rw [wipe_length]) fun j hj => (wipe_ne hj).symm
  obtain ⟨ns, ea, hq⟩ := hd acc τ4 hinv la
  subst ea
  have := Reps.intsV ra
  subst this
  have ev1 := r1.int_of
  have ev2 := r2.int_of
  subst ev1 ev2
  refine ⟨(show (3 : Nat) ≤ sizeLine by decide), fun p hp => ?_⟩
  have hp0 := T1.back (fr_none hp)
  have nF := new_not_data T1.ok hp
  have nO := new_not_own T1.ok hp
  have ne : Da ≠ p := fun z => by rw [z, hp] at hH; cases hH
  have hDa : Fr H Da := t13.back (fr_none hD)
  refine o.rf p (.pool a b Da ns) _ F4 _ (T1.touch hp0 nF nO (tabs_new hp)).ret ⟨nF, _, upd_same, .pool, ne, fD, by rw [upd_ne ne]; exact hH⟩ (fun x f => ?_) (hq Da)
  rcases f with rfl | f
  · exact ⟨hp0, nO⟩
  · rw [show x = Da from f]
    exact ⟨hDa, nD⟩
/-- x.pop(0), as a statement -/
def wPop0 (i : Nat) : SW := fun E τ => ∃ p x es, τ[i]? = some (.own p (.lst (x :: es))) ∧ E.nx (τ.set i (.own p (.lst es)))
theorem ds_pop0 {i : Nat} : DS K W (tDrop (tBM K "list" rPopAt (tVar i) (tCons (tC (.int 0)) tNil))) (wPop0 i) := by
  refine ⟨fun σ H τ F Dn E S ⟨p, x, es, e0, hq⟩ o => ?_⟩
  obtain ⟨s0, _, vs0, h0, r0⟩ := own_lst S e0
  refine ⟨.ref p, s0, .inl ⟨rfl, vs0, .inl (.inl h0)⟩, ?_⟩
  cases r0 with
  | @cons v vs _ _ r1 r2 =>
    refine ⟨p, v :: vs, 0, 0, v, rfl, rfl, h0, by decide, by decide, ?_, rfl, ?_⟩
    · unfold seqIndex?
      simp
    · exact o.nx σ _ F _ (to_change (.refl S) e0 (.lst r2)) hq
/-- y = x.pop() -/
def wPopTo (i j : Nat) : SW := fun E τ => ∃ p es x, τ[i]? = some (.own p (.lst (es ++ [x]))) ∧ E.nx ((τ.set i (.own p (.lst es))).set j (.dat x))
theorem Reps.snoc {F : Hp} {ds : List D} {d : D} : ∀ {vs : List V}, Reps K F vs (ds ++ [d]) → ∃ us v, vs = us ++ [v] ∧ Reps K F us ds ∧ Rep K F v d := by
  induction ds with
  | nil =>
    intro vs r
    obtain ⟨v, e, r1⟩ := Reps.one r
    exact ⟨[], v, e, .nil, r1⟩
  | cons x ds ih =>
    intro vs r
    cases r with
    | cons r1 r2 =>
      obtain ⟨us, v, rfl, r3, r4⟩ := ih r2
      exact ⟨_ :: us, v, rfl, .cons r1 r3, r4⟩
theorem ds_popTo {i j : Nat} : DS K W (tAsg (tBM0 K "list" rPop (tVar i)) (gName j)) (wPopTo i j) := by
  refine ⟨fun σ H τ F Dn E S ⟨p, es, x, e0, hq⟩ o => ?_⟩
  obtain ⟨s0, _, vs0, h0, r0⟩ := own_lst S e0
  obtain ⟨us, v, rfl, r1, r2⟩ := r0.snoc
  refine ⟨.ref p, s0, .inl ⟨rfl, _, .inl (.inl h0)⟩, p, us ++ [v], v, rfl, rfl, h0, by simp, ?_⟩
  rw [List.dropLast_concat]
  have T := to_change (es := .lst es) (.refl S) e0 (.lst r1)
  exact o.nx _ _ F _ (T.at (T.ok.set r2) fun a h => isOwn_set (c := .dat x) (fun a z => z) h) hq
/-- while -/
def wWhile (wc : TW) (wb : SW) : SW := fun E τ => ∃ inv : Nat → List Cell → Prop, (∃ m, inv m τ) ∧ ∀ m τ1, inv m τ1 → wc τ1 (fun b τ2 => (b = true → wb { E with nx := fun τ3 => ∃ m', m' < m ∧ inv m' τ3, ct := fun τ3 => ∃ m', m' < m ∧ inv m' τ3, bk := E.nx } τ2) ∧ (b = false → E.nx τ2)) E.ex
theorem ds_while {tc : TT} {tb : TS} {wc : TW} {wb : SW} (hc : DT K W tc wc) (hb : DS K W tb wb) : DS K W (tWhile tc tb) (wWhile wc wb) := by
  refine ⟨fun σ H τ F Dn E S ⟨inv, ⟨m0, h0⟩, hst⟩ o => ?_⟩
  refine ⟨fun m σ2 H2 => ∃ τ2 F2, To K F H σ2 τ F2 H2 τ2 ∧ inv m τ2, ⟨m0, τ, F, .refl S, h0⟩, ?_⟩
  rintro m σ2 H2 ⟨τ2, F2, t2, hinv⟩
  refine hc.run σ2 H2 τ2 F2 _ _ E.ex t2.ok (hst m τ2 hinv) (fun b τ3 F3 H3 t3 ⟨h1, h2⟩ => ?_) (o.of t2).xto
  have T3 := t2.trans t3
  cases b with
  | true =>
    refine iteT ?_
    refine ⟨fun σ' H' => ∃ m', m' < m ∧ ∃ τ' F', To K F H σ' τ F' H' τ' ∧ inv m' τ', fun σ' H' ⟨m', hm, τ', F', t', q⟩ => ⟨m', hm, τ', F', t', q⟩, ?_⟩
    have o3 := o.of T3
    refine hb.run σ2 H3 τ3 F3 _ _ T3.ok (h1 rfl) ⟨fun σ' τ' F' H' u ⟨m', hm, q⟩ => ⟨m', hm, τ', F', T3.trans u, q⟩, fun σ' τ' F' H' u q => o3.nx σ' τ' F' H' u q, fun σ' τ' F' H' u ⟨m', hm, q⟩ => ⟨m', hm, τ', F', T3.trans u, q⟩, o3.rt, o3.ex, o3.rf, o3.rg⟩
  | false =>
    refine iteF ?_
    exact o.nx σ2 τ3 F3 H3 T3 (h2 rfl)
/-- x = list(e): a list of the name's own -/
def wListOwn (i : Nat) (wa : AW) : SW := fun E τ => wa τ (fun ds τ' => ∃ d es, ds = [d] ∧ seqD d = some es ∧ ∀ p, E.nx (τ'.set i (.own p (.lst es)))) E.ex
theorem ds_listOwn {i : Nat} {t : TA} {w : AW} (h : DA K W t w) : DS K W (tAsg (tCB (rListOf K) t) (gName i)) (wListOwn i w) := by
  refine ⟨fun σ H τ F Dn E S hw o => h.run σ H τ F _ _ E.ex S hw (fun vs ds τ' F' H' t' r ⟨d, es, ed, e, hq⟩ => ?_) o.xto⟩
  subst ed
  obtain ⟨v, rfl, r1⟩ := r.one
  obtain ⟨a, ys, rfl, hs, r2⟩ := r1.seq e
  exact ⟨a, ys, rfl, hs.imp (fun h => t'.ok.sub.seq h) (fun h => SqT_mono t'.ok.sub h), fun l hl => o.nx _ _ F' _ (to_own t' hl (.lst r2)) (hq l)⟩
/-- for .. in x, x an own list that stays as it is meanwhile -/
def wForOwn (i : Nat) (wg : GW) (wb : SW) : SW := fun E τ => ∃ p es, τ[i]? = some (.own p (.lst es)) ∧ ∃ inv : Nat → List Cell → Prop, inv 0 τ ∧
  (∀ k d τ2, es[k]? = some d → inv k τ2 → τ2[i]? = some (.own p (.lst es)) ∧ wg d τ2 fun τ3 => wb { E with nx := inv (k + 1), ct := inv (k + 1), bk := E.nx } τ3) ∧ ∀ τ2, inv es.length τ2 → τ2[i]? = some (.own p (.lst es)) ∧ E.nx τ2
theorem ds_forOwn {i : Nat} {g : TG} {tb : TS} {vs : List Nat} {wg : GW} {wb : SW} (hg : DG K vs g wg) (hb : DS K W tb wb) : DS K W (tFor (iSeq K (tVar i)) g tb) (wForOwn i wg wb) := by
  refine ⟨fun σ H τ F Dn E S ⟨p, es, e0, inv, h0, hst, hd⟩ o => ?_⟩
  obtain ⟨s0, _, vs0, hh0, r0⟩ := own_lst S e0
  refine ⟨.ref p, s0, p, rfl, .inl ⟨⟨vs0, .inl (.inl hh0)⟩, ?_⟩⟩
  refine ⟨fun k m σ2 H2 => m = es.length - k ∧ k ≤ es.length ∧ ∃ τ2 F2, To K F H σ2 τ F2 H2 τ2 ∧ inv k τ2, ⟨_, rfl, Nat.zero_le _, τ, F, .refl S, h0⟩, ?_⟩
  rintro k m σ2 H2 ⟨rfl, hle, τ2, F2, t2, hinv⟩
  by_cases hlt : k < es.length
  · obtain ⟨e2, hw⟩ := hst k es[k] τ2 (List.getElem?_eq_getElem hlt) hinv
    obtain ⟨_, _, us, hh2, r2⟩ := own_lst t2.ok e2
    have hlu : k < us.length := by rw [r2.length]; exact hlt
    refine .inr ⟨⟨us, us[k], .inl (.inl hh2), List.getElem?_eq_getElem hlu⟩, fun σ' H' => ∃ τ' F', To K F H σ' τ F' H' τ' ∧ inv (k + 1) τ', fun σ' H' ⟨τ', F', t', q⟩ => ⟨es.length - (k + 1), by omega, rfl, hlt, τ', F', t', q⟩, fun x H' y => ?_⟩
    obtain ⟨rfl, y⟩ := y
    have ex := y us (.inl (.inl hh2))
    obtain ⟨d, ed, rd⟩ := r2.get ex
    rw [List.getElem?_eq_getElem hlt] at ed
    cases ed
    refine hg.run σ2 H' τ2 F2 x _ _ _ t2.ok rd hw fun σ4 τ4 S4 o4 _ _ h4 => ?_
    have T4 : To K F H σ4 τ F2 H' τ4 := t2.at S4 o4
    refine hb.run σ4 H' τ4 F2 _ _ S4 h4 ?_
    have o4 := o.of T4
    exact ⟨fun σ' τ' F' H' u q => ⟨τ', F', T4.trans u, q⟩, fun σ' τ' F' H' u q => o4.nx σ' τ' F' H' u q, fun σ' τ' F' H' u q => ⟨τ', F', T4.trans u, q⟩, o4.rt, o4.ex, o4.rf, o4.rg⟩
  · have e : k = es.length := by omega
    subst e
    obtain ⟨e2, hw⟩ := hd τ2 hinv
    obtain ⟨_, _, us, hh2, r2⟩ := own_lst t2.ok e2
    exact .inl ⟨⟨us, .inl (.inl hh2), by rw [r2.length]; exact Nat.le_refl _⟩, o.nx σ2 τ2 F2 H2 t2 hw⟩
/-- x.remove(e), x an own list -/
def rRemD (K : PySem.W.Frag) : V → List V → Hp → VK → Prop := fun x vs H Q => ∃ l xs ps v d j, x = .ref l ∧ vs = [v] ∧ H l = some (.lst xs) ∧ DpAll K H xs ps ∧ Dp K H v d ∧ SeqAt.shaped (.list ps) = true ∧ SeqAt.shaped d = true ∧ SeqAt.dataPlace ps d = some j ∧ Q .non (upd H l (.lst (xs.eraseIdx j)))
theorem mt_removeD {X : Cx} (hu : X.A.units + 65 < cLine) : MtR X "list.remove" (rRemD X.K) := by
  intro pins s σ H x vs v us Q I rx rv h
  obtain ⟨l, xs, ps, w, d, j, rfl, rfl, hH, hp, hd, s1, s2, hj, q⟩ := h
  cases rx
  obtain ⟨u, rfl, ru⟩ := rv.one
  obtain ⟨z, its, n, r, hl, e⟩ := I.lstM hH
  obtain ⟨as, ra⟩ := Dp.readsAll I ps xs its hp r
  obtain ⟨bs, rb⟩ := Dp.reads I d w u hd ru
  have c1 : (PyData.list ps).canLay0 = true := SeqAt.canLay_of_shaped s1
  have c2 : (PyData.list ps).plain = true := PyData.plain_of_canLay0 _ c1
  refine SeqAt.remove_list_data (vs := its.toArray) ⟨_, e, rfl, n, rfl⟩ ra rb c2 (PyData.plain_of_canLay0 _ (SeqAt.canLay_of_shaped s2)) (room_in_shaped s2 hu) hj (by rw [List.size_toArray]; omega) ⟨.non, _, I.lset (its' := its.eraseIdx j) hH e ?_ (r.eraseIdx j) ?_, rfl, q⟩
  · show its.toArray.eraseIdxIfInBounds j = (its.eraseIdx j).toArray
    rw [List.eraseIdxIfInBounds_toArray]
  · have := len_erase xs j
    omega
def wRemove (i : Nat) (wa : AW) : SW := fun E τ => (∃ p es, τ[i]? = some (.own p (.lst es))) ∧ wa τ (fun ds τ' => ∃ p es d ps x j, ds = [d] ∧ τ'[i]? = some (.own p (.lst es)) ∧ toPys es = some ps ∧ toPy d = some x ∧ SeqAt.shaped (.list ps) = true ∧ SeqAt.shaped x = true ∧ SeqAt.dataPlace ps x = some j ∧ E.nx (τ'.set i (.own p (.lst (es.eraseIdx j))))) E.ex
theorem Reps.erase {F : Hp} : ∀ {vs : List V} {ds : List D} (n : Nat), Reps K F vs ds → Reps K F (vs.eraseIdx n) (ds.eraseIdx n)
  | _, _, _, .nil => .nil
  | _, _, 0, .cons _ t => t
  | _, _, n + 1, .cons g t => .cons g (Reps.erase n t)
theorem ds_remove {i : Nat} {t : TA} {w : AW} (h : DA K W t w) : DS K W (tDrop (tBM K "list" (rRemD K) (tVar i) t)) (wRemove i w) := by
  refine ⟨fun σ H τ F Dn E S ⟨⟨p, es, e0⟩, hw⟩ o => ?_⟩
  obtain ⟨s0, _, vs0, h0, _⟩ := own_lst S e0
  refine ⟨.ref p, s0, .inl ⟨rfl, vs0, .inl (.inl h0)⟩, ?_⟩
  refine h.run σ H τ F _ _ E.ex S hw (fun vs ds τ' F' H' t' r ⟨p', es', d, ps, x, j, ed, e1, hp, hx, s1, s2, hj, hq⟩ => ?_) o.xto
  subst ed
  obtain ⟨v, rfl, r1⟩ := r.one
  obtain ⟨q1, _, vs1, h1, r2⟩ := own_lst t'.ok e1
  rw [s0] at q1
  cases q1
  refine ⟨p, vs1, ps, v, x, j, rfl, rfl, h1, DpAll_mono t'.ok.sub (dps_of r2 hp), Dp_mono t'.ok.sub (dp_of r1 hx), s1, s2, hj, ?_⟩
  exact o.nx σ _ F' _ (to_change t' e1 (.lst (r2.erase j))) hq
end
/-- try .. except C: -/
def wTry (K : PySem.W.Frag) (C : Addr) (wb wh : SW) : SW := fun E τ => wb { E with ex := fun x τ' => ∃ b, PySem.W.exmOne K (.ref x.cls) (.ref C) = some b ∧ (b = true → wh E τ') ∧ (b = false → E.ex x τ') } τ
section
variable {K : PySem.W.Frag} {W : WX}
theorem ds_try {C : Addr} {tb : WX → TS} {ts : TS} {wb wh : SW} (hb : ∀ W', DS K W' (tb W') wb) (hh : DS K W ts wh) : DS K W (fun D σ H => tb (L2.wOnly K (.ref C) (fun _ _ _ => ts) W D) D σ H) (wTry K C wb wh) := by
  refine ⟨fun σ H τ F Dn E S hw o => ?_⟩
  refine (hb _).run σ H τ F Dn _ S hw ⟨o.nx, o.bk, o.ct, o.rt, fun σ' x cls dx τ' F' H' t r ⟨b, e1, h1, h2⟩ => ?_, o.rf, o.rg⟩
  exact ⟨b, by rw [r.c]; exact e1, fun z a ha => hh.run σ' H' τ' F' Dn E t.ok (h1 z) (o.of t), fun z => o.ex σ' x cls dx τ' F' H' t r (h2 z)⟩
end
theorem ixN31 : ixN 3 1 = some 1 := by decide
end L3

/-! ## is True, is False -/
namespace L3
open PySem PySem.Spec PyProof.Rows L2
variable [TB : TabT]
def rIsB : R2 := fun x y H Q => ∃ a b, x = .bl a ∧ y = .bl b ∧ Q (.bl (decide (a = b))) H
def rNotB : R2 := fun x y H Q => ∃ a b, x = .bl a ∧ y = .bl b ∧ Q (.bl (!decide (a = b))) H
theorem op_isB {X : Cx} : OpR X (compareOp .Is) rIsB := by
  intro pins s σ H x y v u Q I rx ry h
  obtain ⟨m, n, rfl, rfl, q⟩ := h
  cases rx
  cases ry
  by_cases e : m = n
  · subst e
    exact wpAny_is_self rfl ⟨.bl true, H, I, rfl, by simpa using q⟩
  · exact wpAny_is_other rfl (fun z => e (Value.bool.inj z)) ⟨.bl false, H, I, rfl, by simpa [e] using q⟩
theorem op_notB {X : Cx} : OpR X (compareOp .IsNot) rNotB := by
  intro pins s σ H x y v u Q I rx ry h
  obtain ⟨m, n, rfl, rfl, q⟩ := h
  cases rx
  cases ry
  by_cases e : m = n
  · subst e
    exact wpAny_isNot_self rfl ⟨.bl false, H, I, rfl, by simpa using q⟩
  · exact wpAny_isNot_other rfl (fun z => e (Value.bool.inj z)) ⟨.bl true, H, I, rfl, by simpa [e] using q⟩
section
variable {K : PySem.W.Frag}
def gIsB : D → D → (D → Prop) → Prop := fun x y q => ∃ a b, x = .bl a ∧ y = .bl b ∧ q (.bl (decide (a = b)))
def gNotB : D → D → (D → Prop) → Prop := fun x y q => ∃ a b, x = .bl a ∧ y = .bl b ∧ q (.bl (!decide (a = b)))
theorem o_isB : Op2 K rIsB gIsB := by
  rintro F H x y d1 d2 q Q s r1 r2 ⟨a, b, rfl, rfl, hq⟩ k
  exact ⟨a, b, r1.bl_of, r2.bl_of, k _ _ F H (.refl _ _ _) s (.bl _) hq⟩
theorem o_notB : Op2 K rNotB gNotB := by
  rintro F H x y d1 d2 q Q s r1 r2 ⟨a, b, rfl, rfl, hq⟩ k
  exact ⟨a, b, r1.bl_of, r2.bl_of, k _ _ F H (.refl _ _ _) s (.bl _) hq⟩
end
end L3

/-! ## in a list, not in a tuple, a list put together as one's own -/
namespace L3
open PySem PySem.Spec PyProof.Rows L2
variable [TB : TabT]
def rNotInT (K : PySem.W.Frag) : R2 := fun x y H Q => ∃ d ds, Dp K H x d ∧ Dp K H y (.tuple ds) ∧ SeqAt.shaped d = true ∧ SeqAt.shaped (.tuple ds) = true ∧ Q (.bl (!ds.any fun z => PyData.eqv z d)) H
theorem op_notInT {X : Cx} (hu : X.A.units + 65 < cLine) : OpR X (compareOp .NotIn) (rNotInT X.K) := by
  intro pins s σ H x y v u Q I rx ry h
  obtain ⟨d, ds, hd, he, sd, se, q⟩ := h
  obtain ⟨as, r1⟩ := Dp.reads I d x v hd rx
  obtain ⟨bs, r2⟩ := Dp.reads I (.tuple ds) y u he ry
  exact SeqAt.notIn_tuple_reads r2 r1 (SeqAt.canLay_of_shaped se) (SeqAt.canLay_of_shaped sd) (room_in_shaped sd hu) ⟨.bl _, H, I, rfl, q⟩
section
variable {K : PySem.W.Frag} {W : WX}
def gInL : D → D → (D → Prop) → Prop := fun x y q => ∃ d ds, toPy x = some d ∧ toPy y = some (.list ds) ∧ SeqAt.shaped d = true ∧ SeqAt.shaped (.list ds) = true ∧ q (.bl (ds.any fun z => PyData.eqv z d))
theorem o_inL : Op2 K (rInD K) gInL := by
  rintro F H x y d1 d2 q Q s r1 r2 ⟨v, ds, e1, e2, h1, h2, hq⟩ k
  exact ⟨v, ds, Dp_mono s (dp_of r1 e1), Dp_mono s (dp_of r2 e2), h1, h2, k _ _ F H (.refl _ _ _) s (.bl _) hq⟩
def gNotInT : D → D → (D → Prop) → Prop := fun x y q => ∃ d ds, toPy x = some d ∧ toPy y = some (.tuple ds) ∧ SeqAt.shaped d = true ∧ SeqAt.shaped (.tuple ds) = true ∧ q (.bl (!ds.any fun z => PyData.eqv z d))
theorem o_notInT : Op2 K (rNotInT K) gNotInT := by
  rintro F H x y d1 d2 q Q s r1 r2 ⟨v, ds, e1, e2, h1, h2, hq⟩ k
  exact ⟨v, ds, Dp_mono s (dp_of r1 e1), Dp_mono s (dp_of r2 e2), h1, h2, k _ _ F H (.refl _ _ _) s (.bl _) hq⟩
/-- x = a + b, lists: a list of the name's own -/
def wCatOwn (i : Nat) (wa wb : EW) : SW := fun E τ => wa τ (fun d1 τ1 => wb τ1 (fun d2 τ2 => ∃ as bs, d1 = .lst as ∧ d2 = .lst bs ∧ as.length + bs.length ≤ 1000 ∧ ∀ p, E.nx (τ2.set i (.own p (.lst (as ++ bs))))) E.ex) E.ex
theorem ds_catOwn {i : Nat} {ta tb : TE} {wa wb : EW} (ha : DE K W ta wa) (hb : DE K W tb wb) : DS K W (tAsg (tOp rCat ta tb) (gName i)) (wCatOwn i wa wb) := by
  refine ⟨fun σ H τ F Dn E S hw o => ha.run σ H τ F _ _ E.ex S hw (fun v1 d1 τ1 F1 H1 t1 r1 h1 => ?_) o.xto⟩
  refine hb.run σ H1 τ1 F1 _ _ E.ex t1.ok h1 (fun v2 d2 τ2 F2 H2 t2 r2 h2 => ?_) (o.of t1).xto
  obtain ⟨as, bs, rfl, rfl, hl, hq⟩ := h2
  have r1 := r1.mono t2.ext.f
  cases r1 with
  | @lst a xs _ h1 r1 =>
    cases r2 with
    | @lst b ys _ h2 r2 =>
      refine ⟨a, b, xs, ys, rfl, rfl, t2.ok.sub _ _ h1, t2.ok.sub _ _ h2, by rw [r1.length, r2.length]; exact Nat.le_of_lt (small1000 hl), fun p hp => ?_⟩
      exact o.nx _ _ F2 _ (to_own (t1.trans t2) hp (.lst (r1.append r2))) (hq p)
end
end L3

/-! ## zip of a tuple and a list, either way round -/
namespace L3
open PySem PySem.Spec PyProof.Rows L2
variable [TB : TabT]
/-- a tuple (true) or a list (false) -/
def SqK (K : PySem.W.Frag) (b : Bool) (H : Hp) (a : Addr) (xs : List V) : Prop := match b with | true => SqT K H a xs | false => SqL K H a xs
def ItK (b : Bool) (h : Heap) (it a : Addr) (i : Nat) : Prop := match b with | true => h.IsTupleIter it a i | false => h.IsListIter it a i
def HoK (b : Bool) (h : Heap) (a : Addr) (items : Array Value) : Prop := match b with | true => h.IsTuple a items | false => h.IsList a items
def obK (b : Bool) (a : Addr) : Obj := match b with | true => { cls := .type "tuple_iterator", data := .fields #[.ref a, .int 0 0] } | false => { cls := .type "list_iterator", data := .fields #[.ref a, .int 0 0] }
theorem draws_K {prog : Program} {w : World} {A : Around} (b : Bool) (hh : A.handled = none) (it l : Addr) (hne : l ≠ it) (items : Array Value) :
    Draws prog w A it [it, l] items.size (fun i v => items[i]? = some v) (fun i h => ItK b h it l i ∧ HoK b h l items) := by
  cases b with
  | true => exact Draws.tuple hh it l hne items
  | false => exact Draws.list hh it l hne items
theorem begins_K (b : Bool) (a : Addr) (items : Array Value) : Begins (.ref a) (obK b a) fun h => HoK b h a items := by
  cases b with
  | true => exact begins_tuple a items
  | false => exact begins_list a items
theorem seq_K {X : Cx} {pins : List (Addr × Obj)} {σ : L2.St} {H : Hp} {s : Shared} {b : Bool} {a : Addr} {xs : List V} (I : Inv X pins σ H s) (h : SqK X.K b H a xs) : ∃ its : List Value, Vals xs its ∧ HoK b s.heap a its.toArray ∧ a < s.heap.objs.size := by
  cases b with
  | true =>
    obtain ⟨its, rv, p, _⟩ := I.tuple h
    obtain ⟨o, ho, _⟩ := id p
    exact ⟨its, rv, p, Heap.lt_size ho⟩
  | false =>
    obtain ⟨its, rv, p, _⟩ := I.list h
    exact ⟨its, rv, p.isList, p.lt⟩
theorem inj_K {X : Cx} {pins : List (Addr × Obj)} {σ : L2.St} {H : Hp} {s : Shared} {b : Bool} {a : Addr} {xs ys : List V} (I : Inv X pins σ H s) (h : SqK X.K b H a xs) (g : SqK X.K b H a ys) : xs = ys := by
  cases b with
  | true => exact I.tuple_inj h g
  | false => exact I.list_inj h g
theorem it_obj {b : Bool} {h : Heap} {it a : Addr} {i : Nat} (d : ItK b h it a i) : ∃ o, h.get? it = some o ∧ ∀ v, o.data ≠ .cell v := by
  cases b with
  | true => obtain ⟨o, e, _, q⟩ := d; exact ⟨o, e, fun v z => by rw [q] at z; cases z⟩
  | false => obtain ⟨o, e, _, q⟩ := d; exact ⟨o, e, fun v z => by rw [q] at z; cases z⟩

def ItzK (K : PySem.W.Frag) (p q : Bool) (a b : Addr) : It :=
  ⟨fun i H => ∃ (xs ys : List V) (x y : V), SqK K p H a xs ∧ SqK K q H b ys ∧ xs[i]? = some x ∧ ys[i]? = some y,
    fun i H v H' => ∃ T x y, v = .ref T ∧ H T = none ∧ H' = upd H T (.tup [x, y]) ∧ (∀ xs, SqK K p H a xs → xs[i]? = some x) ∧ ∀ ys, SqK K q H b ys → ys[i]? = some y,
    fun i H => ∃ xs ys : List V, SqK K p H a xs ∧ SqK K q H b ys ∧ i ≤ xs.length ∧ i ≤ ys.length ∧ (i = xs.length ∨ i = ys.length)⟩
theorem sepK {z TI TO i1 i2 a b : Addr} (D : ZipApart z TI TO i1 i2 a b) : ZipSep2 z TI TO i1 i2 [i1, a] [i2, b] where
  TIz := D.TIz
  TOz := D.TOz
  TITO := D.TITO
  TIi1 := D.TIi1
  mem1 := by simp
  zf1 := by simp only [List.mem_cons, List.not_mem_nil, or_false, not_or]; exact ⟨D.i1z.symm, D.l1z.symm⟩
  Tf1 := by simp only [List.mem_cons, List.not_mem_nil, or_false, not_or]; exact ⟨D.TOi1, D.l1TO.symm⟩
  TIi2 := D.TIi2
  mem2 := by simp
  zf2 := by simp only [List.mem_cons, List.not_mem_nil, or_false, not_or]; exact ⟨D.i2z.symm, D.l2z.symm⟩
  Tf2 := by simp only [List.mem_cons, List.not_mem_nil, or_false, not_or]; exact ⟨D.TOi2, D.l2TO.symm⟩
  sep1_2 := by simp only [List.mem_cons, List.not_mem_nil, or_false, not_or]; exact ⟨D.i12, D.l2i1.symm⟩
  sep2_1 := by simp only [List.mem_cons, List.not_mem_nil, or_false, not_or]; exact ⟨D.i12.symm, D.l1i2.symm⟩
theorem at_K {b : Bool} {h h' : Heap} {it a : Addr} {i : Nat} (d : ItK b h it a i) (k : ∀ o, h.get? it = some o → h'.get? it = some o) : ItK b h' it a i := by
  cases b with
  | true => exact Heap.IsTupleIter.at d k
  | false => exact Heap.IsListIter.at d k
theorem turn_zipK {P : Program} {w : World} {K : PySem.W.Frag} {elts : List Expr} {kk : Nat} {tpos : Pos} {p q : Bool} {a b z TI TO i1 i2 : Addr} (D : ZipApart z TI TO i1 i2 a b) :
    Turn P w K (.Tuple elts kk tpos) (ItzK K p q a b) [z, TI, TO, i1, i2] z (fun i h => IsZip h z TI TO .none ∧ IsTupOf2 h TI (.ref i1) (.ref i2) ∧ (∃ x y, IsTupOf2 h TO x y) ∧ ItK p h i1 a i ∧ ItK q h i2 b i) where
  mem := by simp
  obj := fun i h st c hc => by
    obtain ⟨hz, hTI, ⟨x, y, hTO⟩, h1, h2⟩ := st
    have e' : c = z ∨ c = TI ∨ c = TO ∨ c = i1 ∨ c = i2 := by simpa using hc
    rcases e' with q | q | q | q | q
    · rw [q]; exact ⟨_, hz, fun v q => nomatch q⟩
    · rw [q]; exact ⟨_, hTI, fun v q => nomatch q⟩
    · rw [q]; exact ⟨_, hTO, fun v q => nomatch q⟩
    · rw [q]; exact it_obj h1
    · rw [q]; exact it_obj h2
  keep := fun i h h' st k => by
    obtain ⟨hz, hTI, ⟨x, y, hTO⟩, h1, h2⟩ := st
    exact ⟨k z (by simp) _ hz, k TI (by simp) _ hTI, ⟨x, y, k TO (by simp) _ hTO⟩, at_K h1 fun o q => k i1 (by simp) o q, at_K h2 fun o q => k i2 (by simp) o q⟩
  item := by
    intro X hP hw hK hc i pins s σ H E I hf st hg
    subst hP hw hK
    obtain ⟨hz, hTI, ⟨x0, y0, hTO⟩, h1, h2⟩ := st
    obtain ⟨xs, ys, x, y, hqx, hqy, hx, hy⟩ := hg
    obtain ⟨its, rv, g1, la⟩ := seq_K I hqx
    obtain ⟨its2, rv2, g2, lb⟩ := seq_K I hqy
    obtain ⟨u, hu, ru⟩ := rv.get hx
    obtain ⟨u2, hu2, ru2⟩ := rv2.get hy
    have hzl : z < s.heap.objs.size := Heap.lt_size hz
    have hi1 : i < its.toArray.size := by have := (List.getElem?_eq_some_iff.mp hu).1; simpa using this
    have hi2 : i < its2.toArray.size := by have := (List.getElem?_eq_some_iff.mp hu2).1; simpa using this
    refine wpAny_pyNext_zipD2_item (sepK D) (draws_K (A := X.A.in1) p (show X.A.in1.handled = none from I.ok.hd hc) i1 a D.l1i1 its.toArray) (draws_K (A := X.A.in1) q (show X.A.in1.handled = none from I.ok.hd hc) i2 b D.l2i2 its2.toArray) hz hTI hTO ⟨h1, g1⟩ ⟨h2, g2⟩ hi1 hi2 fun v1 v2 h' tk e1 e2 z' TO' h1' h2' hT hsz hk => ?_
    have e1 : v1 = u := by
      have : its.toArray[i]? = some u := by simpa using hu
      rw [this] at e1; exact (Option.some.inj e1).symm
    have e2 : v2 = u2 := by
      have : its2.toArray[i]? = some u2 := by simpa using hu2
      rw [this] at e2; exact (Option.some.inj e2).symm
    subst e1
    subst e2
    refine ⟨_, rfl, wpAny_letOwnedTupleGo_zip (s := { s with heap := h', toks := tk }) z' fun h'' z'' sb => ?_⟩
    have hT2 : h''.get? s.heap.objs.size = some { cls := .type "tuple", data := .seq #[v1, v2] } := (sb.2 _ (Nat.ne_of_gt hzl)).trans hT
    have new : ObjOk X.prog X.w (upd H s.heap.objs.size (.tup [x, y])) h'' s.heap.objs.size (.tup [x, y]) :=
      ⟨by show 2 ≤ sizeLine; decide, [v1, v2], .cons ru (.cons ru2 .nil), ⟨_, hT2, rfl, _, rfl⟩⟩
    have I1 : Inv X pins σ (upd H s.heap.objs.size (.tup [x, y])) { s with heap := h'', toks := tk } :=
      I.turnedNew (t' := tk) (ch := [z, TI, TO, i1, i2]) (fun c o hb q => (sb.2 c (fun q' => hb (by simp [q']))).trans (hk c o (fun q' => hb (by simp [q'])) (fun q' => hb (by simp [q'])) (fun q' => hb (by simp [q'])) (fun q' => hb (by simp [q'])) q)) hf (Nat.le_refl _) new
    refine ⟨.ref s.heap.objs.size, _, I1, rfl, ⟨_, x, y, rfl, I.hok.fresh (Nat.le_refl _), rfl, fun l hl => by rw [inj_K I hl hqx]; exact hx, fun l hl => by rw [inj_K I hl hqy]; exact hy⟩, ⟨z'', ?_, ⟨v1, v2, ?_⟩, ?_, ?_⟩, fun c hcm => ?_⟩
    · exact (sb.2 _ D.TIz).trans (hk _ _ D.TIz D.TITO D.TIi1 D.TIi2 hTI)
    · exact (sb.2 _ D.TOz).trans TO'
    · exact at_K h1'.1 fun o q => (sb.2 _ D.i1z).trans q
    · exact at_K h2'.1 fun o q => (sb.2 _ D.i2z).trans q
    · have hlt : c < s.heap.objs.size := by
        have e' : c = z ∨ c = TI ∨ c = TO ∨ c = i1 ∨ c = i2 := by simpa using hcm
        rcases e' with q | q | q | q | q
        · rw [q]; exact hzl
        · rw [q]; exact Heap.lt_size hTI
        · rw [q]; exact Heap.lt_size hTO
        · rw [q]; obtain ⟨_, e1, _⟩ := it_obj h1; exact Heap.lt_size e1
        · rw [q]; obtain ⟨_, e2, _⟩ := it_obj h2; exact Heap.lt_size e2
      rw [upd_ne (Nat.ne_of_lt hlt)]
      exact (hf c hcm).1
  done := by
    intro X hP hw hK hc i pins s σ H E I hf st hg
    subst hP hw hK
    obtain ⟨hz, hTI, ⟨x0, y0, hTO⟩, h1, h2⟩ := st
    obtain ⟨xs, ys, hqx, hqy, l1, l2, hend⟩ := hg
    obtain ⟨its, rv, g1, la⟩ := seq_K I hqx
    obtain ⟨its2, rv2, g2, lb⟩ := seq_K I hqy
    have e1 := rv.length
    have e2 := rv2.length
    exact wpAny_pyNext_zipD2_end (sepK D) (draws_K (A := X.A.in1) p (show X.A.in1.handled = none from I.ok.hd hc) i1 a D.l1i1 its.toArray) (draws_K (A := X.A.in1) q (show X.A.in1.handled = none from I.ok.hd hc) i2 b D.l2i2 its2.toArray) hz hTI hTO ⟨h1, g1⟩ ⟨h2, g2⟩ (by simp; omega) (by simp; omega) (by simp; omega) fun h' tk hk => ⟨rfl, I.turnedL (t' := tk) (ch := [z, TI, TO, i1, i2]) (fun c o hb q =>
      hk c o (fun q' => hb (by simp [q'])) (fun q' => hb (by simp [q'])) (fun q' => hb (by simp [q'])) (fun q' => hb (by simp [q'])) q) hf⟩
  self := fun A i s Q E st h => wpAny_pyIter_zip st.1 h
def iZipK (K : PySem.W.Frag) (ta : TA) : TI := fun σ H R => ta σ H fun vs H1 => ∃ p q a b xs ys, vs = [.ref a, .ref b] ∧ SqK K p H1 a xs ∧ SqK K q H1 b ys ∧ R (ItzK K p q a b) H1
theorem new_it {b : Bool} {h : Heap} {it a : Addr} (e : h.get? it = some (obK b a)) : ItK b h it a 0 := by
  cases b with
  | true => exact ⟨_, e, rfl, rfl⟩
  | false => exact ⟨_, e, rfl, rfl⟩
theorem pi_zipK {X : Cx} {e e2 : Expr} {ta : TA} {p pos tpos : Pos} {elts : List Expr} {kk : Nat} (hg : Gl X "zip") (hm : X.mg "zip" = none) (ha : PA X [e, e2] ta)
    (hs : starEach [e, e2] X.env = (false, eval e X.env) :: starEach [e2] X.env := by rfl) (hpl : (backTo pos (starEach [e2] X.env)).any (·.1) = false := by rfl) :
    PI X (.Tuple elts kk tpos) (.Call (.Name "zip" p) [e, e2] [] pos) (iZipK X.K ta) := by
  refine ⟨fun pins s σ H R I h => ?_⟩
  refine Call_ (ld_blt I hg hm PyProof.Rows.boot_zip (PyProof.Rows.callWith_type1 (thn (ha.run pos pins s σ H _ I h) fun us s1 ⟨vs, H1, I1, r1, q1⟩ => ?_) hs hpl))
  obtain ⟨bp, bq, a, b, xs, ys, ex, hqx, hqy, q⟩ := q1
  subst ex
  cases r1 with
  | cons r rr =>
    cases rr with
    | cons r' rr =>
      cases rr
      cases r
      cases r'
      have fresh5 : ∀ c, c ∈ [s1.heap.objs.size + 4, s1.heap.objs.size + 2, s1.heap.objs.size + 3, s1.heap.objs.size, s1.heap.objs.size + 1] → FpOk X pins H1 c := fun c hcm => by
        have e' : c = s1.heap.objs.size + 4 ∨ c = s1.heap.objs.size + 2 ∨ c = s1.heap.objs.size + 3 ∨ c = s1.heap.objs.size ∨ c = s1.heap.objs.size + 1 := by simpa using hcm
        have hle : s1.heap.objs.size ≤ c := by
          rcases e' with z | z | z | z | z
          · rw [z]; exact Nat.le_add_right _ _
          · rw [z]; exact Nat.le_add_right _ _
          · rw [z]; exact Nat.le_add_right _ _
          · rw [z]; exact Nat.le_refl _
          · rw [z]; exact Nat.le_add_right _ _
        exact I1.fpOk hle (I1.hok.fresh hle)
      obtain ⟨its, rv, g1, la⟩ := seq_K I1 hqx
      obtain ⟨its2, rv2, g2, lb⟩ := seq_K I1 hqy
      refine zip_begins2 (begins_K bp a its.toArray) (begins_K bq b its2.toArray) g1 g2 fun h' hz hTI hTO h1 h2 hsz hk => wpAny_pyIter_zip hz ?_
      have I2 : Inv X pins σ H1 { s1 with heap := h' } := I1.kept (t' := s1.toks) hk
      exact ⟨s1.heap.objs.size + 4, [s1.heap.objs.size + 4, s1.heap.objs.size + 2, s1.heap.objs.size + 3, s1.heap.objs.size, s1.heap.objs.size + 1], _, _, H1, rfl, I2, turn_zipK (PySem.W.ktu_apart s1.heap.objs.size a b la lb), ⟨hz, hTI, ⟨_, _, hTO⟩, new_it h1, new_it h2⟩, fresh5, q⟩
section
variable {K : PySem.W.Frag} {W : WX}
theorem SqK_mono {K : PySem.W.Frag} {F F' : Hp} {b : Bool} {a : Addr} {xs : List V} (s : Same F F') (h : SqK K b F a xs) : SqK K b F' a xs := by
  cases b with
  | true => exact SqT_mono s h
  | false => exact s.seq h
theorem Rep.seqK {F : Hp} {v : V} {d : D} {ds : List D} (h : Rep K F v d) (e : seqD d = some ds) : ∃ b a xs, v = .ref a ∧ SqK K b F a xs ∧ Reps K F xs ds := by
  cases h with
  | tup h r => cases e; exact ⟨true, _, _, rfl, h, r⟩
  | lst h r => cases e; exact ⟨false, _, _, rfl, .inl (.inl h), r⟩
  | fl h r => cases e; exact ⟨false, _, _, rfl, h, r⟩
  | _ => cases e
/-- zip of any two, tuples or lists -/
def wZipK (wa : AW) : IW := fun τ q e => wa τ (fun ds τ' => ∃ x y xs ys, ds = [x, y] ∧ seqD x = some xs ∧ seqD y = some ys ∧ q (zipD xs ys) τ') e
theorem di_zipK {t : TA} {w : AW} (h : DA K W t w) : DI K W (iZipK K t) (wZipK w) := by
  refine ⟨fun σ H τ F R q e S hw k x => h.run σ H τ F _ _ e S hw (fun vs ds τ' F' H' t' r ⟨d1, d2, xs, ys, ed, e1, e2, hq⟩ => ?_) x⟩
  subst ed
  obtain ⟨v, v', rfl, r1, r2⟩ := r.two
  obtain ⟨p, a, us, rfl, h1, h2⟩ := r1.seqK e1
  obtain ⟨b, c, ws, rfl, h3, h4⟩ := r2.seqK e2
  refine ⟨p, b, a, c, us, ws, rfl, SqK_mono t'.ok.sub h1, SqK_mono t'.ok.sub h3, k _ _ τ' F' H' t' ?_ hq⟩
  refine ⟨fun i F2 H s s2 hi => ?_, fun F2 H s s2 => ?_, fun i F2 H x H' s s2 hi y => ?_⟩
  · obtain ⟨x, y, e1, e2, _⟩ := zip_get hi
    obtain ⟨v, g1, _⟩ := h2.getD e1
    obtain ⟨u, g2, _⟩ := h4.getD e2
    exact ⟨us, ws, v, u, SqK_mono (s.trans s2) h1, SqK_mono (s.trans s2) h3, g1, g2⟩
  · have l : (zipD xs ys).length = min us.length ws.length := by unfold zipD; rw [List.length_zipWith, h2.length, h4.length]
    exact ⟨us, ws, SqK_mono (s.trans s2) h1, SqK_mono (s.trans s2) h3, by omega, by omega, by omega⟩
  · obtain ⟨T, u, v, rfl, hT, rfl, e1, e2⟩ := y
    have e1 := e1 us (SqK_mono (s.trans s2) h1)
    have e2 := e2 ws (SqK_mono (s.trans s2) h3)
    obtain ⟨a, b, f1, f2, f3⟩ := zip_get hi
    obtain ⟨a', g1, g2⟩ := (h2.mono s).get e1
    obtain ⟨b', g3, g4⟩ := (h4.mono s).get e2
    rw [f1] at g1; cases g1
    rw [f2] at g3; cases g3
    obtain ⟨x1, x2⟩ := new_ext (o := .tup [u, v]) s2 hT
    have sm := new_same (o := .tup [u, v]) s2 hT
    exact ⟨_, _, f3, x1, x2, .tup (.inl (.inl upd_same)) (.cons (g2.mono sm) (.cons (g4.mono sm) .nil))⟩
end
end L3

/-! ## list(range(..)), range down, max, min and sum of a list -/
namespace L3
open PySem PySem.Spec PyProof.Rows L2
variable [TB : TabT]
section
variable {K : PySem.W.Frag} {W : WX}
theorem rgV_eq (a b : Int) : rgV a b = (List.range (b - a).toNat).map fun i => V.int (a + (i : Nat)) := rfl
theorem rg_reps {F : Hp} {a b : Int} : Reps K F (rgV a b) (rangeD a (b - a).toNat) := by
  unfold rgV rangeD
  induction (List.range (b - a).toNat) with
  | nil => exact .nil
  | cons x r ih => exact .cons (.int _) ih
def wListRg1 (we : EW) : EW := fun τ q e => we τ (fun d τ' => ∃ n, d = .int n ∧ 0 ≤ n ∧ n ≤ 1000 ∧ q (.lst (rangeD 0 n.toNat)) τ') e
theorem de_listRg1 {t : TE} {w : EW} (h : DE K W t w) : DE K W (tLstRg (tRg1 t)) (wListRg1 w) := by
  refine ⟨fun σ H τ F Q q e S hw k x => h.run σ H τ F _ _ e S hw (fun v d τ' F' H' t' r ⟨n, ed, n0, n1, hq⟩ => ?_) x⟩
  subst ed
  refine ⟨n, r.int_of, ⟨by omega, by omega, by omega, by omega, by omega⟩, fun p hp => ?_⟩
  obtain ⟨x1, x2⟩ := new_ext (o := .lst (rgV 0 n)) t'.ok.sub hp
  refine k _ (.lst (rangeD 0 n.toNat)) τ' _ _ (t'.trans (.small t'.ok x1 x2)) (.lst upd_same ?_) hq
  have := rg_reps (K := K) (F := upd F' p (.lst (rgV 0 n))) (a := 0) (b := n)
  rw [Int.sub_zero] at this
  exact this
def wListRg2 (wa wb : EW) : EW := fun τ q e => wa τ (fun d1 τ1 => wb τ1 (fun d2 τ2 => ∃ i j, d1 = .int i ∧ d2 = .int j ∧ -1000000 ≤ i ∧ i ≤ 1000000 ∧ -1000000 ≤ j ∧ j ≤ 1000000 ∧ q (.lst (rangeD i (j - i).toNat)) τ2) e) e
theorem de_listRg2 {ta tb : TE} {wa wb : EW} (ha : DE K W ta wa) (hb : DE K W tb wb) : DE K W (tLstRg (tRg2 ta tb)) (wListRg2 wa wb) := by
  refine ⟨fun σ H τ F Q q e S hw k x => ha.run σ H τ F _ _ e S hw (fun v1 d1 τ1 F1 H1 t1 r1 h1 => ?_) x⟩
  refine hb.run σ H1 τ1 F1 _ _ e t1.ok h1 (fun v2 d2 τ2 F2 H2 t2 r2 h2 => ?_) (x.of t1)
  obtain ⟨i, j, rfl, rfl, i0, i1, j0, j1, hq⟩ := h2
  refine ⟨i, j, (r1.mono t2.ext.f).int_of, r2.int_of, ⟨by omega, by omega, by omega, by omega, by omega⟩, fun p hp => ?_⟩
  obtain ⟨x1, x2⟩ := new_ext (o := .lst (rgV i j)) t2.ok.sub hp
  exact k _ (.lst (rangeD i (j - i).toNat)) τ2 _ _ ((t1.trans t2).trans (.small t2.ok x1 x2)) (.lst upd_same rg_reps) hq
/-- i, i - 1, .., n of them -/
def downD (i : Int) (n : Nat) : List D := (List.range n).map fun k => .int (i - (k : Nat))
theorem downD_length {i : Int} {n : Nat} : (downD i n).length = n := by unfold downD; rw [List.length_map, List.length_range]
theorem downD_get {i : Int} {n k : Nat} (h : k < n) : (downD i n)[k]? = some (.int (i - (k : Nat))) := by
  unfold downD
  rw [List.getElem?_map, List.getElem?_range h]
  rfl
def wRngDown (wa : AW) : IW := fun τ q e => wa τ (fun ds τ' => ∃ i j : Int, ds = [.int i, .int j, .int (-1)] ∧ (-(2 ^ 62) ≤ i ∧ i < 2 ^ 62 ∧ -(2 ^ 62) ≤ j ∧ j < 2 ^ 62) ∧ q (downD i (i - j).toNat) τ') e
theorem Reps.three {F : Hp} {xs : List V} {d d' d'' : D} (h : Reps K F xs [d, d', d'']) : ∃ v v' v'', xs = [v, v', v''] ∧ Rep K F v d ∧ Rep K F v' d' ∧ Rep K F v'' d'' := by
  cases h with
  | cons h t => obtain ⟨u, u', rfl, r, r'⟩ := Reps.two t; exact ⟨_, _, _, rfl, h, r, r'⟩
theorem di_rngDown {t : TA} {w : AW} (h : DA K W t w) : DI K W (iRng3 t) (wRngDown w) := by
  refine ⟨fun σ H τ F R q e S hw k x => h.run σ H τ F _ _ e S hw (fun vs ds τ' F' H' t' r ⟨i, j, ej, ⟨b1, b2, b3, b4⟩, hq⟩ => ?_) x⟩
  subst ej
  obtain ⟨v, v', v'', rfl, r1, r2, r3⟩ := r.three
  refine ⟨i, j, -1, (i - j).toNat, by rw [r1.int_of, r2.int_of, r3.int_of], RgC.neg b1 b2 b3 b4, k _ _ τ' F' H' t' ?_ hq⟩
  refine ⟨fun i2 F2 H s s2 hi => ?_, fun F2 H s s2 => ?_, fun i2 F2 H x H' s s2 hi y => ?_⟩
  · rw [downD_length] at hi; exact hi
  · rw [downD_length]; exact Nat.le_refl _
  · rw [downD_length] at hi
    obtain ⟨rfl, rfl⟩ := y
    refine ⟨_, F2, downD_get hi, .refl _ _ _, s2, ?_⟩
    have : i + (i2 : Nat) * (-1 : Int) = i - (i2 : Nat) := by omega
    rw [this]
    exact .int _
theorem ints_of {F : Hp} {v : V} {d : D} {ns : List Int} (r : Rep K F v d) (e : d = .lst (ns.map D.int) ∨ d = .fl (ns.map D.int)) : ∃ a, v = .ref a ∧ SqL K F a (ns.map V.int) := by
  rcases e with rfl | rfl
  · cases r with
    | lst h r2 => have := Reps.intsV r2; subst this; exact ⟨_, rfl, .inl (.inl h)⟩
  · cases r with
    | fl h r2 => have := Reps.intsV r2; subst this; exact ⟨_, rfl, h⟩
def gSum : List D → (D → Prop) → Prop := fun ds q => ∃ (d : D) (ns : List Int), ds = [d] ∧ (d = .lst (ns.map D.int) ∨ d = .fl (ns.map D.int)) ∧ q (.int ns.sum)
theorem o_sum : OpN K (rSum K) gSum := by
  rintro F H xs ds q Q s r ⟨d, ns, rfl, e, hq⟩ k
  obtain ⟨v, rfl, r1⟩ := r.one
  obtain ⟨a, rfl, h⟩ := ints_of r1 e
  exact ⟨a, ns, rfl, s.seq h, k _ _ F H (.refl _ _ _) s (.int _) hq⟩
def gMaxL : List D → (D → Prop) → Prop := fun ds q => ∃ (d : D) (ns : List Int), ds = [d] ∧ (d = .lst (ns.map D.int) ∨ d = .fl (ns.map D.int)) ∧ 0 < ns.length ∧ ∀ m, m ∈ ns → (∀ y, y ∈ ns → y ≤ m) → q (.int m)
theorem o_maxL : OpN K (rMax K) gMaxL := by
  rintro F H xs ds q Q s r ⟨d, ns, rfl, e, hl, hq⟩ k
  obtain ⟨v, rfl, r1⟩ := r.one
  obtain ⟨a, rfl, h⟩ := ints_of r1 e
  exact ⟨a, ns, rfl, s.seq h, hl, fun m h1 h2 => k _ _ F H (.refl _ _ _) s (.int _) (hq m h1 h2)⟩
def gMinL : List D → (D → Prop) → Prop := fun ds q => ∃ (d : D) (ns : List Int), ds = [d] ∧ (d = .lst (ns.map D.int) ∨ d = .fl (ns.map D.int)) ∧ 0 < ns.length ∧ ∀ m, m ∈ ns → (∀ y, y ∈ ns → m ≤ y) → q (.int m)
theorem o_minL : OpN K (rMin K) gMinL := by
  rintro F H xs ds q Q s r ⟨d, ns, rfl, e, hl, hq⟩ k
  obtain ⟨v, rfl, r1⟩ := r.one
  obtain ⟨a, rfl, h⟩ := ints_of r1 e
  exact ⟨a, ns, rfl, s.seq h, hl, fun m h1 h2 => k _ _ F H (.refl _ _ _) s (.int _) (hq m h1 h2)⟩
/-- one way or the other -/
def wEor (a b : EW) : EW := fun τ q e => a τ q e ∨ b τ q e
theorem de_eor {t : TE} {a b : EW} (ha : DE K W t a) (hb : DE K W t b) : DE K W t (wEor a b) :=
  ⟨fun σ H τ F Q q e S h k x => h.elim (fun h => ha.1 σ H τ F Q q e S h k x) (fun h => hb.1 σ H τ F Q q e S h k x)⟩
end
end L3

/-! ## a comprehension over an own list -/
namespace L3
open PySem PySem.Spec PyProof.Rows L2
variable [TB : TabT]
section
variable {K : PySem.W.Frag} {W : WX}
theorem lc_turnsOwn {i0 : Nat} {p : Addr} {g : TG} {tt : TT} {te : TE} {vs ws : List Nat} {wg : GW} {wt : TW} {we : EW} {σ : L2.St} {F1 H1 : Hp} {τ1 : List Cell} {ds : List D} {Qd : Hp → Prop} {Da : Addr} {inv : Nat → List D → List Cell → Prop}
    (hg : DG K ws g wg) (ht : DT K W0 tt wt) (he : DE K W0 te we) (hs : ∀ j ∈ ws, j ∈ vs) (S : SOk K F1 H1 σ τ1) (hD : H1 Da = none) (hn : ds.length ≤ 1000) (h0 : inv 0 [] (wipeD τ1 vs))
    (hst : ∀ i d acc τ2, ds[i]? = some d → inv i acc τ2 → acc.length ≤ i → τ2[i0]? = some (.own p (.lst ds)) ∧ wg d τ2 fun τ3 => wt τ3 (fun b τ4 => (b = true → we τ4 (fun y τ5 => inv (i + 1) (acc ++ [y]) (wipeD τ5 vs)) noX) ∧ (b = false → inv (i + 1) acc (wipeD τ4 vs))) noX)
    (hd : ∀ accV acc F2 H2 τ2, To K F1 H1 (wipe σ vs) τ1 F2 H2 (wipeD τ2 vs) → F2 Da = none → ¬ IsOwn (wipeD τ2 vs) Da → H2 Da = some (.lst accV) → Reps K F2 accV acc → acc.length ≤ ds.length → inv ds.length acc (wipeD τ2 vs) → (wipeD τ2 vs)[i0]? = some (.own p (.lst ds)) ∧ Qd H2) :
    ∃ W : Nat → Nat → Hp → Prop, (∃ m, W 0 m (upd H1 Da (.lst []))) ∧ ∀ i m H, W i m H → ((Itl K p).stop i H ∧ Qd H) ∨ ((Itl K p).go i H ∧ ∃ Nx : Hp → Prop, (∀ H', Nx H' → ∃ m', m' < m ∧ W (i + 1) m' H') ∧ ∀ x H', (Itl K p).yld i H x H' → g x (wipe σ vs) H' fun σ2 H2 => wipe σ2 vs = wipe σ vs ∧ tt σ2 H2 fun b H3 =>
    if b = true then te σ2 H3 fun y H4 => ∃ acc, H4 Da = some (.lst acc) ∧ acc.length < sizeLine ∧ Nx (upd H4 Da (.lst (acc ++ [y]))) else Nx H3) := by
  let Inv (i : Nat) (H : Hp) : Prop := ∃ accV acc F2 τ2, To K F1 H1 (wipe σ vs) τ1 F2 H (wipeD τ2 vs) ∧ F2 Da = none ∧ ¬ IsOwn (wipeD τ2 vs) Da ∧ H Da = some (.lst accV) ∧ Reps K F2 accV acc ∧ acc.length ≤ i ∧ inv i acc (wipeD τ2 vs)
  have S1 : SOk K F1 H1 (wipe σ vs) (wipeD τ1 vs) := S.wiped (wipe_length σ vs) fun j hj => wipe_ne hj
  have F1D : F1 Da = none := by
    cases q : F1 Da with
    | none => rfl
    | some u => rw [S.sub _ _ q] at hD; cases hD
  have no1 : ¬ IsOwn τ1 Da := fun z => by
    obtain ⟨_, us, e2, _⟩ := S.own.has z
    rw [hD] at e2; cases e2
  have start : Inv 0 (upd H1 Da (.lst [])) := by
    refine ⟨[], [], F1, τ1, To.touch ⟨.refl _ _ _, fun p h => .inl (isOwn_wipe h), S1⟩ (fr_none hD) F1D (fun z => no1 (isOwn_wipe z)) (tabs_new hD), F1D, fun z => no1 (isOwn_wipe z), upd_same, .nil, Nat.le_refl _, h0⟩
  refine ⟨fun i m H => m = ds.length - i ∧ i ≤ ds.length ∧ Inv i H, ⟨_, rfl, Nat.zero_le _, start⟩, ?_⟩
  rintro i m H ⟨rfl, hi, accV, acc, F2, τ2, T, fD, nD, hH, ra, la, hinv⟩
  by_cases hlt : i < ds.length
  · obtain ⟨e2, hw⟩ := hst i ds[i] acc _ (List.getElem?_eq_getElem hlt) hinv la
    obtain ⟨_, _, us, hh2, r2⟩ := own_lst T.ok e2
    have hlu : i < us.length := by rw [r2.length]; exact hlt
    refine .inr ⟨⟨us, us[i], .inl (.inl hh2), List.getElem?_eq_getElem hlu⟩, Inv (i + 1), fun H' p' => ⟨ds.length - (i + 1), by omega, rfl, hlt, p'⟩, fun x H' y => ?_⟩
    obtain ⟨rfl, y⟩ := y
    have ex := y us (.inl (.inl hh2))
    obtain ⟨d, ed, rd⟩ := r2.get ex
    rw [List.getElem?_eq_getElem hlt] at ed
    cases ed
    have T3 : To K F2 H' (wipe σ vs) (wipeD τ2 vs) F2 H' (wipeD τ2 vs) := .refl T.ok
    refine hg.run _ H' _ F2 x _ _ _ T3.ok rd hw fun σ4 τ4 S4 o4 a4 l4 h4 => ?_
    have ew : wipe σ4 vs = wipe σ vs := wipe_eq hs (by rw [l4]) (fun j hj => a4 j hj)
    refine ⟨ew, ?_⟩
    have T4 : To K F2 H' σ4 (wipeD τ2 vs) F2 H' τ4 := T3.at S4 o4
    refine ht.run σ4 H' τ4 F2 _ _ noX S4 h4 (fun b τ5 F5 H5 t5 ⟨h5, h6⟩ => ?_) xto0
    have T5 := T4.trans t5
    have back : ∀ {F6 H6 : Hp} {τ6 : List Cell}, To K F2 H' σ4 (wipeD τ2 vs) F6 H6 τ6 → To K F1 H1 (wipe σ vs) τ1 F6 H6 (wipeD τ6 vs) := fun {F6 H6 τ6} t =>
      (T.trans t).at (t.ok.wiped (by rw [← ew, wipe_length]) fun j hj => by rw [← ew]; exact wipe_ne hj) fun p h => isOwn_wipe h
    cases b with
    | false =>
      refine iteF ?_
      have n5 := T5.not_own nD hH
      refine ⟨accV, acc, F5, τ5, back T5, T5.not_data nD hH fD, fun z => n5 (isOwn_wipe z), T5.ext.keep Da _ hH nD nt_lst, ra.mono T5.ext.f, Nat.le_succ_of_le la, h6 rfl⟩
    | true =>
      refine iteT ?_
      refine he.run σ4 H5 τ5 F5 _ _ noX t5.ok (h5 rfl) (fun yv yd τ6 F6 H6 t6 r6 h7 => ?_) xto0
      have T6 := T5.trans t6
      have n6 := T6.not_own nD hH
      refine ⟨accV, T6.ext.keep Da _ hH nD nt_lst, by rw [ra.length]; exact Nat.lt_of_le_of_lt la (small1000 (by omega)), ?_⟩
      have nw : ¬ IsOwn (wipeD τ6 vs) Da := fun z => n6 (isOwn_wipe z)
      refine ⟨accV ++ [yv], acc ++ [yd], F6, τ6, (back T6).touch (fr_none hD) (T6.not_data nD hH fD) nw (tabs_lst (T6.ext.keep Da _ hH nD nt_lst)), T6.not_data nD hH fD, nw, upd_same, (ra.mono T6.ext.f).append (.cons r6 .nil), ?_, h7⟩
      rw [List.length_append, List.length_singleton]
      omega
  · have e : i = ds.length := by omega
    subst e
    obtain ⟨e2, hq⟩ := hd accV acc F2 H τ2 T fD nD hH ra la hinv
    obtain ⟨_, _, us, hh2, r2⟩ := own_lst T.ok e2
    exact .inl ⟨⟨us, .inl (.inl hh2), by rw [r2.length]; exact Nat.le_refl _⟩, hq⟩
/-- [.. for .. in x ..], x an own list that stays as it is meanwhile -/
def wLcOv (i0 : Nat) (wg : GW) (wt : TW) (we : EW) (vs : List Nat) : EW := fun τ q _ => ∃ p ds, τ[i0]? = some (.own p (.lst ds)) ∧ ds.length ≤ 1000 ∧ ∃ inv : Nat → List D → List Cell → Prop, inv 0 [] (wipeD τ vs) ∧
  (∀ i d acc τ2, ds[i]? = some d → inv i acc τ2 → acc.length ≤ i → τ2[i0]? = some (.own p (.lst ds)) ∧ wg d τ2 fun τ3 => wt τ3 (fun b τ4 => (b = true → we τ4 (fun y τ5 => inv (i + 1) (acc ++ [y]) (wipeD τ5 vs)) noX) ∧ (b = false → inv (i + 1) acc (wipeD τ4 vs))) noX) ∧
  ∀ acc τ2, inv ds.length acc (wipeD τ2 vs) → acc.length ≤ ds.length → (wipeD τ2 vs)[i0]? = some (.own p (.lst ds)) ∧ q (.lst acc) (wipeD τ2 vs)
theorem de_lcOv {i0 : Nat} {g : TG} {tt : TT} {te : TE} {vs ws : List Nat} {wg : GW} {wt : TW} {we : EW} (hg : DG K ws g wg) (ht : DT K W0 tt wt) (he : DE K W0 te we) (hs : ∀ j ∈ ws, j ∈ vs) :
    DE K W (tLc (iSeq K (tVar i0)) g tt te vs) (wLcOv i0 wg wt we vs) := by
  refine ⟨fun σ H τ F Q q e S ⟨p, ds, e0, hn, inv, h0, hst, hd⟩ k x => ?_⟩
  obtain ⟨s0, _, vs0, hh0, r0⟩ := own_lst S e0
  refine ⟨.ref p, s0, p, rfl, .inl ⟨⟨vs0, .inl (.inl hh0)⟩, fun Da hD => ?_⟩⟩
  refine lc_turnsOwn hg ht he hs S hD hn h0 hst fun accV acc F2 H2 τ2 T fD nD hH ra la hinv => ?_
  obtain ⟨e2, hq⟩ := hd acc τ2 hinv la
  refine ⟨e2, k (.ref Da) (.lst acc) (wipeD τ2 vs) (upd F2 Da (.lst accV)) H2 ?_ (.lst upd_same (ra.mono (same_upd fD))) hq⟩
  have T2 := T.freeze (fr_none hD) fD hH nD
  refine To.at (τ1 := wipeD τ2 vs) T2 ?_ fun p h => h
  rw [← wipeD_idem]
  exact T2.ok.wiped (by rw [wipe_length]) fun j hj => (wipe_ne hj).symm
end
end L3

/-! ## *e in a tuple display or in the arguments of a call -/
namespace L3
open PySem PySem.Spec PyProof.Rows L2
variable [TB : TabT]
section
variable {K : PySem.W.Frag} {W : WX}
def wStar (we : EW) (wa : AW) : AW := fun τ q e => we τ (fun d τ1 => ∃ es, seqD d = some es ∧ wa τ1 (fun ds τ2 => q (es ++ ds) τ2) e) e
theorem reps_app {F : Hp} : ∀ {xs ys : List V} {ds es : List D}, Reps K F xs ds → Reps K F ys es → Reps K F (xs ++ ys) (ds ++ es)
  | [], _, _, _, .nil, h => h
  | _ :: _, _, _, _, .cons a r, h => .cons a (reps_app r h)
theorem da_star {t : TE} {u : TA} {w : EW} {v : AW} (h : DE K W t w) (g : DA K W u v) : DA K W (StX.tStar K t u) (wStar w v) := by
  refine ⟨fun σ H τ F Q q e S hw k x => h.run σ H τ F _ _ e S hw (fun z d τ' F' H' t' r ⟨es, ed, h1⟩ => ?_) x⟩
  obtain ⟨a, xs, rfl, hs, rs⟩ := r.seq ed
  refine ⟨a, xs, rfl, hs.symm.imp (fun h => SqT_mono t'.ok.sub h) (fun h => t'.ok.sub.seq h), ?_⟩
  refine g.run σ H' τ' F' _ _ e t'.ok h1 (fun zs ds τ2 F2 H2 t2 r2 hq => ?_) (x.of t')
  exact k (xs ++ zs) (es ++ ds) τ2 F2 H2 (t'.trans t2) (reps_app (rs.mono t2.ext.f) r2) hq
theorem lc2_turns {J : It} {g g1 : TG} {tt tt1 : TT} {te : TE} {wi1 : TI} {vs ws vs1 ws1 : List Nat} {wI1 : IW} {wg wg1 : GW} {wt wt1 : TW} {we : EW} {σ : L2.St} {F1 H1 : Hp} {τ1 : List Cell} {ds : List D} {Qd : Hp → Prop} {Da : Addr} {inv : Nat → List D → List Cell → Prop}
    (hg : DG K ws g wg) (ht : DT K W0 tt wt) (hi1 : DI K W0 wi1 wI1) (hg1 : DG K ws1 g1 wg1) (ht1 : DT K W0 tt1 wt1) (he : DE K W0 te we) (hs : ∀ j ∈ ws, j ∈ vs) (hs1 : ∀ j ∈ ws1, j ∈ vs1) (hv : ∀ j ∈ vs1, j ∈ vs) (S : SOk K F1 H1 σ τ1) (it : ItOk K F1 J ds) (hD : H1 Da = none) (h0 : inv 0 [] (wipeD τ1 vs))
    (hst : ∀ i d acc τ2, ds[i]? = some d → inv i acc τ2 → wg d τ2 fun τ3 => wt τ3 (fun b τ4 => (b = true → wI1 τ4 (fun es τ5 => ∃ inv1 : Nat → List D → List Cell → Prop, inv1 0 acc (wipeD τ5 vs1) ∧
      (∀ j d acc1 τ6, es[j]? = some d → inv1 j acc1 τ6 → wg1 d τ6 fun τ7 => wt1 τ7 (fun b τ8 => (b = true → acc1.length ≤ 900 ∧ we τ8 (fun y τ9 => inv1 (j + 1) (acc1 ++ [y]) (wipeD τ9 vs1)) noX) ∧ (b = false → inv1 (j + 1) acc1 (wipeD τ8 vs1))) noX) ∧
      ∀ acc1 τ6, inv1 es.length acc1 (wipeD τ6 vs1) → inv (i + 1) acc1 (wipeD (wipeD τ6 vs1) vs)) noX) ∧ (b = false → inv (i + 1) acc (wipeD τ4 vs))) noX)
    (hd : ∀ accV acc F2 H2 τ2, To K F1 H1 (wipe σ vs) τ1 F2 H2 (wipeD τ2 vs) → F2 Da = none → ¬ IsOwn (wipeD τ2 vs) Da → H2 Da = some (.lst accV) → Reps K F2 accV acc → inv ds.length acc (wipeD τ2 vs) → Qd H2) :
    ∃ W : Nat → Nat → Hp → Prop, (∃ m, W 0 m (upd H1 Da (.lst []))) ∧ ∀ i m H, W i m H → (J.stop i H ∧ Qd H) ∨ (J.go i H ∧ ∃ Nx : Hp → Prop, (∀ H', Nx H' → ∃ m', m' < m ∧ W (i + 1) m' H') ∧ ∀ x H', J.yld i H x H' → g x (wipe σ vs) H' fun σ2 H2 => wipe σ2 vs = wipe σ vs ∧ tt σ2 H2 fun b H3 =>
    if b = true then wi1 σ2 H3 fun J1 H4 => ∃ W1 : Nat → Nat → Hp → Prop, (∃ m, W1 0 m H4) ∧ ∀ j k H, W1 j k H →
      (J1.stop j H ∧ Nx H) ∨ (J1.go j H ∧ ∃ Nx1 : Hp → Prop, (∀ H', Nx1 H' → ∃ k', k' < k ∧ W1 (j + 1) k' H') ∧ ∀ x H', J1.yld j H x H' → g1 x (wipe σ2 vs1) H' fun σ3 H5 => wipe σ3 vs1 = wipe σ2 vs1 ∧ tt1 σ3 H5 fun b H6 =>
        if b = true then te σ3 H6 fun y H7 => ∃ acc, H7 Da = some (.lst acc) ∧ acc.length < sizeLine ∧ Nx1 (upd H7 Da (.lst (acc ++ [y]))) else Nx1 H6)
    else Nx H3) := by
  let Inv (i : Nat) (H : Hp) : Prop := ∃ accV acc F2 τ2, To K F1 H1 (wipe σ vs) τ1 F2 H (wipeD τ2 vs) ∧ F2 Da = none ∧ ¬ IsOwn (wipeD τ2 vs) Da ∧ H Da = some (.lst accV) ∧ Reps K F2 accV acc ∧ inv i acc (wipeD τ2 vs)
  have S1 : SOk K F1 H1 (wipe σ vs) (wipeD τ1 vs) := S.wiped (wipe_length σ vs) fun j hj => wipe_ne hj
  have F1D : F1 Da = none := by
    cases q : F1 Da with
    | none => rfl
    | some u => rw [S.sub _ _ q] at hD; cases hD
  have no1 : ¬ IsOwn τ1 Da := fun z => by
    obtain ⟨_, us, e2, _⟩ := S.own.has z
    rw [hD] at e2; cases e2
  have start : Inv 0 (upd H1 Da (.lst [])) := by
    refine ⟨[], [], F1, τ1, To.touch ⟨.refl _ _ _, fun p h => .inl (isOwn_wipe h), S1⟩ (fr_none hD) F1D (fun z => no1 (isOwn_wipe z)) (tabs_new hD), F1D, fun z => no1 (isOwn_wipe z), upd_same, .nil, h0⟩
  refine ⟨fun i m H => m = ds.length - i ∧ i ≤ ds.length ∧ Inv i H, ⟨_, rfl, Nat.zero_le _, start⟩, ?_⟩
  rintro i m H ⟨rfl, hi, accV, acc, F2, τ2, T, fD, nD, hH, ra, hinv⟩
  have s12 : Same F1 F2 := T.ext.f
  by_cases hlt : i < ds.length
  · refine .inr ⟨it.go i F2 H s12 T.ok.sub hlt, Inv (i + 1), fun H' p' => ⟨ds.length - (i + 1), by omega, rfl, hlt, p'⟩, fun x H' y => ?_⟩
    obtain ⟨d, F3, ed, x3, s3, r3⟩ := it.yld i F2 H x H' s12 T.ok.sub hlt y
    have T3 : To K F2 H (wipe σ vs) (wipeD τ2 vs) F3 H' (wipeD τ2 vs) := .small T.ok x3 s3
    refine hg.run _ H' _ F3 x d _ _ T3.ok r3 (hst i d acc _ ed hinv) fun σ4 τ4 S4 o4 a4 l4 h4 => ?_
    have ew : wipe σ4 vs = wipe σ vs := wipe_eq hs (by rw [l4]) (fun j hj => a4 j hj)
    refine ⟨ew, ?_⟩
    have T4 : To K F2 H σ4 (wipeD τ2 vs) F3 H' τ4 := T3.at S4 o4
    refine ht.run σ4 H' τ4 F3 _ _ noX S4 h4 (fun b τ5 F5 H5 t5 ⟨h5, h6⟩ => ?_) xto0
    have T5 := T4.trans t5
    have ej : ∀ j, j ∉ vs → (wipe σ vs)[j]? = σ4[j]? := fun j hj => by rw [← ew]; exact wipe_ne hj
    have n5 := T5.not_own nD hH
    have f5 := T5.not_data nD hH fD
    have k5 := T5.ext.keep Da _ hH nD nt_lst
    cases b with
    | false =>
      refine iteF ?_
      refine ⟨accV, acc, F5, τ5, (T.trans T5).at (t5.ok.wiped (by rw [← ew, wipe_length]) ej) fun p h => isOwn_wipe h, f5, fun z => n5 (isOwn_wipe z), k5, ra.mono T5.ext.f, h6 rfl⟩
    | true =>
      refine iteT ?_
      refine hi1.run σ4 H5 τ5 F5 _ _ noX t5.ok (h5 rfl) (fun J1 es τ6 F6 H6 t6 it1 ⟨inv1, h10, hst1, hd1⟩ => ?_) xto0
      have T6 := T5.trans t6
      have n6a := T6.not_own nD hH
      let Inv1 (j : Nat) (H : Hp) : Prop := ∃ accV acc F7 τ7, To K F1 H1 (wipe σ4 vs1) τ1 F7 H (wipeD τ7 vs1) ∧ Same F6 F7 ∧ F7 Da = none ∧ ¬ IsOwn (wipeD τ7 vs1) Da ∧ H Da = some (.lst accV) ∧ Reps K F7 accV acc ∧ inv1 j acc (wipeD τ7 vs1)
      have start1 : Inv1 0 H6 := ⟨accV, acc, F6, τ6, (T.trans T6).at (t6.ok.wiped (wipe_length _ _) fun j hj => wipe_ne hj) fun p h => isOwn_wipe h, Same.refl _, T6.not_data nD hH fD, fun z => n6a (isOwn_wipe z), T6.ext.keep Da _ hH nD nt_lst, ra.mono T6.ext.f, h10⟩
      refine ⟨fun j k H => k = es.length - j ∧ j ≤ es.length ∧ Inv1 j H, ⟨_, rfl, Nat.zero_le _, start1⟩, ?_⟩
      rintro j k H ⟨rfl, hj, accV, acc, F7, τ7, T7, s67, fD7, nD7, hH7, ra7, hinv1⟩
      by_cases hlt1 : j < es.length
      · refine .inr ⟨it1.go j F7 H s67 T7.ok.sub hlt1, Inv1 (j + 1), fun H' p' => ⟨es.length - (j + 1), by omega, rfl, hlt1, p'⟩, fun x H' y => ?_⟩
        obtain ⟨d, F8, ed, x8, s8, r8⟩ := it1.yld j F7 H x H' s67 T7.ok.sub hlt1 y
        have T8 : To K F7 H (wipe σ4 vs1) (wipeD τ7 vs1) F8 H' (wipeD τ7 vs1) := .small T7.ok x8 s8
        refine hg1.run _ H' _ F8 x d _ _ T8.ok r8 (hst1 j d acc _ ed hinv1) fun σ9 τ9 S9 o9 a9 l9 h9 => ?_
        have ew1 : wipe σ9 vs1 = wipe σ4 vs1 := wipe_eq hs1 (by rw [l9]) (fun j hj => a9 j hj)
        refine ⟨ew1, ?_⟩
        have T9 : To K F7 H σ9 (wipeD τ7 vs1) F8 H' τ9 := T8.at S9 o9
        refine ht1.run σ9 H' τ9 F8 _ _ noX S9 h9 (fun b τ10 F10 H10 t10 ⟨h11, h12⟩ => ?_) xto0
        have T10 := T9.trans t10
        have ej1 : ∀ j, j ∉ vs1 → (wipe σ4 vs1)[j]? = σ9[j]? := fun j hj => by rw [← ew1]; exact wipe_ne hj
        have back : ∀ {F' H' : Hp} {τ' : List Cell}, To K F7 H σ9 (wipeD τ7 vs1) F' H' τ' → To K F1 H1 (wipe σ4 vs1) τ1 F' H' (wipeD τ' vs1) := fun t =>
          (T7.trans t).at (t.ok.wiped (by rw [← ew1, wipe_length]) ej1) fun p h => isOwn_wipe h
        cases b with
        | false =>
          refine iteF ?_
          have n5 := T10.not_own nD7 hH7
          exact ⟨accV, acc, F10, τ10, back T10, s67.trans T10.ext.f, T10.not_data nD7 hH7 fD7, fun z => n5 (isOwn_wipe z), T10.ext.keep Da _ hH7 nD7 nt_lst, ra7.mono T10.ext.f, h12 rfl⟩
        | true =>
          refine iteT ?_
          obtain ⟨la, h11⟩ := h11 rfl
          refine he.run σ9 H10 τ10 F10 _ _ noX t10.ok h11 (fun yv yd τ11 F11 H11 t11 r11 h13 => ?_) xto0
          have T11 := T10.trans t11
          have n6 := T11.not_own nD7 hH7
          refine ⟨accV, T11.ext.keep Da _ hH7 nD7 nt_lst, by rw [ra7.length]; exact Nat.lt_of_le_of_lt (Nat.le_refl _) (small1000 (by omega)), ?_⟩
          have nw : ¬ IsOwn (wipeD τ11 vs1) Da := fun z => n6 (isOwn_wipe z)
          exact ⟨accV ++ [yv], acc ++ [yd], F11, τ11, (back T11).touch (fr_none hD) (T11.not_data nD7 hH7 fD7) nw (tabs_lst (T11.ext.keep Da _ hH7 nD7 nt_lst)), s67.trans T11.ext.f, T11.not_data nD7 hH7 fD7, nw, upd_same, (ra7.mono T11.ext.f).append (.cons r11 .nil), h13⟩
      · have e : j = es.length := by omega
        subst e
        refine .inl ⟨it1.stop F7 H s67 T7.ok.sub, accV, acc, F7, wipeD τ7 vs1, T7.at (T7.ok.wiped (by rw [← ew, wipe_length, wipe_length]) fun j hj => ?_) fun p h => isOwn_wipe h, fD7, fun z => nD7 (isOwn_wipe z), hH7, ra7, hd1 acc τ7 hinv1⟩
        rw [ej j hj]
        exact (wipe_ne fun z => hj (hv j z)).symm
  · have e : i = ds.length := by omega
    subst e
    exact .inl ⟨it.stop F2 H s12 T.ok.sub, hd accV acc F2 H τ2 T fD nD hH ra hinv⟩
/-- [.. for .. in .. for .. in ..] -/
def wLc2 (wI : IW) (wg : GW) (wt : TW) (wI1 : IW) (wg1 : GW) (wt1 : TW) (we : EW) (vs vs1 : List Nat) : EW := fun τ q e => wI τ (fun ds τ1 => ∃ inv : Nat → List D → List Cell → Prop, inv 0 [] (wipeD τ1 vs) ∧
  (∀ i d acc τ2, ds[i]? = some d → inv i acc τ2 → wg d τ2 fun τ3 => wt τ3 (fun b τ4 => (b = true → wI1 τ4 (fun es τ5 => ∃ inv1 : Nat → List D → List Cell → Prop, inv1 0 acc (wipeD τ5 vs1) ∧
      (∀ j d acc1 τ6, es[j]? = some d → inv1 j acc1 τ6 → wg1 d τ6 fun τ7 => wt1 τ7 (fun b τ8 => (b = true → acc1.length ≤ 900 ∧ we τ8 (fun y τ9 => inv1 (j + 1) (acc1 ++ [y]) (wipeD τ9 vs1)) noX) ∧ (b = false → inv1 (j + 1) acc1 (wipeD τ8 vs1))) noX) ∧
      ∀ acc1 τ6, inv1 es.length acc1 (wipeD τ6 vs1) → inv (i + 1) acc1 (wipeD (wipeD τ6 vs1) vs)) noX) ∧ (b = false → inv (i + 1) acc (wipeD τ4 vs))) noX) ∧
  ∀ acc τ2, inv ds.length acc (wipeD τ2 vs) → q (.lst acc) (wipeD τ2 vs)) e
theorem de_lc2 {wi wi1 : TI} {g g1 : TG} {tt tt1 : TT} {te : TE} {vs ws vs1 ws1 : List Nat} {wI wI1 : IW} {wg wg1 : GW} {wt wt1 : TW} {we : EW} (hi : DI K W wi wI) (hg : DG K ws g wg) (ht : DT K W0 tt wt) (hi1 : DI K W0 wi1 wI1) (hg1 : DG K ws1 g1 wg1) (ht1 : DT K W0 tt1 wt1) (he : DE K W0 te we) (hs : ∀ j ∈ ws, j ∈ vs) (hs1 : ∀ j ∈ ws1, j ∈ vs1) (hv : ∀ j ∈ vs1, j ∈ vs) :
    DE K W (tLc2 wi g tt wi1 g1 tt1 te vs vs1) (wLc2 wI wg wt wI1 wg1 wt1 we vs vs1) := by
  refine ⟨fun σ H τ F Q q e S hw k x => hi.run σ H τ F _ _ e S hw (fun J ds τ1 F1 H1 t1 it ⟨inv, h0, hst, hd⟩ Da hD => ?_) x⟩
  refine lc2_turns hg ht hi1 hg1 ht1 he hs hs1 hv t1.ok it hD h0 hst fun accV acc F2 H2 τ2 T fD nD hH ra hinv => ?_
  refine k (.ref Da) (.lst acc) (wipeD τ2 vs) (upd F2 Da (.lst accV)) H2 ?_ (.lst upd_same (ra.mono (same_upd fD))) (hd acc τ2 hinv)
  have T2 := T.freeze (fr_none hD) fD hH nD
  refine t1.trans (To.at (τ1 := wipeD τ2 vs) T2 ?_ fun p h => h)
  rw [← wipeD_idem]
  exact T2.ok.wiped (by rw [wipe_length]) fun j hj => (wipe_ne hj).symm
end
end L3

/-! ## own lists that a def hands back by a comprehension, that are compared, or taken as data -/
namespace L3
open PySem PySem.Spec PyProof.Rows L2
variable [TB : TabT]
section
variable {K : PySem.W.Frag} {W : WX}
/-- f(..) in the midst of an expression, f hands back a new list: it is data at once -/
def wCallFr (n : Nat) (fs : FSF) (wa : AcW) : EW := fun τ q e => wa τ (fun as τ' => as.length = n ∧ (slots as).Nodup ∧ OwnArgs τ' as ∧ fs (cellsOf τ' as) (fun k cs' => ∃ es, k = .lst es ∧ q (.lst es) (putBack τ' as cs')) (fun x cs' => e x (putBack τ' as cs'))) e
theorem de_callFr {n : Nat} {fs : FSF} {t : TA} {w : AcW} (h : DAc K W t w) : DE K W (tCallS (spFr K n fs) (L2.WE W) t) (wCallFr n fs w) := by
  refine ⟨fun σ H τ F Q q e S hw k x => h.run σ H τ F _ _ e S hw (fun vs as τ' F' H' t' a ⟨hl, nd, oa, hf⟩ => ?_) x⟩
  refine ⟨by rw [a.length]; exact hl, F', cellsOf τ' as, _, _, pre_call t' a nd, hf, fun p c cs' F2 H2 x2 s2 c2 ck nk ⟨es, ec, hq⟩ => ?_, fun y cls dx cs' F2 H2 x2 s2 c2 r2 hq => x y cls dx _ F2 H2 (call_to t' nd oa x2 s2 c2) r2 hq⟩
  subst ec
  have T := call_to t' nd oa x2 s2 c2
  obtain ⟨fp, o, hp, cr, _⟩ := ck
  cases cr with
  | @lst us _ r =>
    have hs : Has (.own p (.lst es)) p := .inl rfl
    have nO : ¬ IsOwn (putBack τ' as cs') p := fun z => by
      rcases putBack_isOwn nd oa c2 z with ⟨j, d, _, e, g⟩ | z
      · obtain ⟨_, u, g2, g3⟩ := (t'.ok.own j d e).has g
        exact (nk p hs).1 u g2 g3
      · exact (nk p hs).2 z
    exact k (.ref p) (.lst es) _ (upd F2 p (.lst us)) H2 (T.freeze (t'.back (nk p hs).1) fp hp nO) (.lst upd_same (r.mono (same_upd fp))) hq
/-- return [..] in a def that hands back a new list -/
def wRetLcFr (wI : IW) (wg : GW) (wt : TW) (we : EW) (vs : List Nat) : SW := fun E τ => wI τ (fun ds τ1 => ds.length ≤ 1000 ∧ ∃ inv : Nat → List D → List Cell → Prop, inv 0 [] (wipeD τ1 vs) ∧
  (∀ i d acc τ2, ds[i]? = some d → inv i acc τ2 → acc.length ≤ i → wg d τ2 fun τ3 => wt τ3 (fun b τ4 => (b = true → we τ4 (fun y τ5 => inv (i + 1) (acc ++ [y]) (wipeD τ5 vs)) noX) ∧ (b = false → inv (i + 1) acc (wipeD τ4 vs))) noX) ∧
  ∀ acc τ2, inv ds.length acc (wipeD τ2 vs) → acc.length ≤ ds.length → E.rf (.lst acc) (wipeD τ2 vs)) E.ex
theorem ds_retLcFr {wi : TI} {g : TG} {tt : TT} {te : TE} {vs ws : List Nat} {wI : IW} {wg : GW} {wt : TW} {we : EW} (hi : DI K W wi wI) (hg : DG K ws g wg) (ht : DT K W0 tt wt) (he : DE K W0 te we) (hs : ∀ j ∈ ws, j ∈ vs) :
    DS K W (tRet (tLc wi g tt te vs)) (wRetLcFr wI wg wt we vs) := by
  refine ⟨fun σ H τ F Dn E S hw o => hi.run σ H τ F _ _ E.ex S hw (fun J ds τ1 F1 H1 t1 it ⟨hn, inv, h0, hst, hd⟩ Da hD => ?_) o.xto⟩
  refine lc_turns hg ht he hs t1.ok it hD hn h0 hst fun accV acc F2 H2 τ2 T fD nD hH ra la hinv => ?_
  have T1 : To K F H σ τ F2 H2 (wipeD τ2 vs) := by
    refine t1.trans (To.at (τ1 := wipeD τ2 vs) T ?_ fun p h => h)
    rw [← wipeD_idem]
    exact T.ok.wiped (by rw [wipe_length]) fun j hj => (wipe_ne hj).symm
  have hp0 := t1.back (fr_none hD)
  exact o.rf Da (.lst acc) (wipeD τ2 vs) F2 H2 T1.ret (.flat trivial fD hH (.lst ra)) (fun a f => by rw [flat_has (k := .lst acc) trivial f]; exact ⟨hp0, nD⟩) (hd acc τ2 hinv la)
/-- x == e, x an own list -/
def wPeekL (g : D → D → (D → Prop) → Prop) (i : Nat) (we : EW) : EW := fun τ q e => (∃ p es, τ[i]? = some (.own p (.lst es))) ∧ we τ (fun d τ1 => ∃ p es, τ1[i]? = some (.own p (.lst es)) ∧ g (.lst es) d fun x => ∃ b, x = .bl b ∧ q (.bl b) τ1) e
theorem ext_peek {F H F' H' : Hp} {p : Addr} {vs : List V} (x : Ext [] (upd F p (.lst vs)) H F' H') : Ext [] F H F H' :=
  ⟨Same.refl F, fun _ _ h => .inl h, x.keep, x.there, fun z => ⟨(x.tabs ⟨z.1, nt_upd nt_lst z.2⟩).1, z.2⟩⟩
theorem de_peekL {i : Nat} {r : R2} {g : D → D → (D → Prop) → Prop} {t : TE} {w : EW} (o : Op2 K r g) (h : DE K W t w) : DE K W (tOp r (tVar i) t) (wPeekL g i w) := by
  refine ⟨fun σ H τ F Q q e S ⟨⟨p, es, e0⟩, hw⟩ k x => ?_⟩
  obtain ⟨s0, _, vs0, h0, _⟩ := own_lst S e0
  refine ⟨.ref p, s0, ?_⟩
  refine h.run σ H τ F _ _ e S hw (fun y d τ1 F1 H1 t1 r1 ⟨p', es', e1, hg⟩ => ?_) x
  obtain ⟨s1, f1, vs1, h1, r2⟩ := own_lst t1.ok e1
  rw [s0] at s1
  cases s1
  have sF : Same F1 (upd F1 p (.lst vs1)) := same_upd f1
  have sH : Same (upd F1 p (.lst vs1)) H1 := fun a u e => by
    by_cases q : a = p
    · subst q
      rw [upd_same] at e
      cases e
      exact h1
    · rw [upd_ne q] at e
      exact t1.ok.sub a u e
  refine o (upd F1 p (.lst vs1)) H1 (.ref p) y (.lst es') d _ Q sH (.lst upd_same (r2.mono sF)) (r1.mono sF) hg fun v dd F' H' x1 s2 rv ⟨b, eb, hq⟩ => ?_
  subst eb
  cases rv
  exact k (.bl b) (.bl b) τ1 F1 H' (t1.trans (.small t1.ok (ext_peek x1) fun a u e => s2 a u (x1.f a u (sF a u e)))) (.bl b) hq
/-- isinstance(x, list), x an own list -/
def wIsiOwn (i : Nat) : EW := fun τ q _ => (∃ p es, τ[i]? = some (.own p (.lst es))) ∧ q (.bl true) τ
theorem de_isiOwn {i : Nat} : DE K W (tCB (rIsi K) (tCons (tVar i) (tCons (tC (.ty "list")) tNil))) (wIsiOwn i) := by
  refine ⟨fun σ H τ F Q q e S ⟨⟨p, es, e0⟩, hq⟩ k x => ?_⟩
  obtain ⟨s0, f1, vs1, h1, r2⟩ := own_lst S e0
  have sF : Same F (upd F p (.lst vs1)) := same_upd f1
  have sH : Same (upd F p (.lst vs1)) H := fun a u e => by
    by_cases q : a = p
    · subst q
      rw [upd_same] at e
      cases e
      exact h1
    · rw [upd_ne q] at e
      exact S.sub a u e
  have hk : PySem.W.kitOne K (tyD (.lst es)) (.type "list") = some true := (isi_ok (K := K) (d := .lst []) (n := "list") (by unfold OkD; exact okDs_of fun d hd => by cases hd) (by simp)).2
  refine ⟨.ref p, s0, ?_⟩
  refine o_isi (upd F p (.lst vs1)) H [.ref p, .ty "list"] [.lst es, .ty "list"] (fun d => d = .bl true) Q sH (.cons (.lst upd_same (r2.mono sF)) (.cons (.ty "list") .nil)) ⟨.lst es, "list", true, rfl, .inl trivial, hk, rfl⟩ fun v dd F' H' x1 s2 rv eb => ?_
  subst eb
  cases rv
  exact k (.bl true) (.bl true) τ F H' (.small S (ext_peek x1) fun a u e => s2 a u (x1.f a u (sF a u e))) (.bl true) hq
end
end L3

/-! ## sorted(set(x)), x a tuple of integers -/
namespace L3
open PySem PySem.Spec PyProof.Rows L2
def tSortSet (K : PySem.W.Frag) (ta : TE) : TE := fun σ H Q => ta σ H fun x H1 => ∃ (a : Addr) (ns : List Int), x = V.ref a ∧ SqT K H1 a (ns.map V.int) ∧ ns.length < 64 ∧
  ∀ (l : Addr) (out : List Int), out.Pairwise (· < ·) → (∀ k, k ∈ out ↔ k ∈ ns) → H1 l = none → Q (.ref l) (upd H1 l (.lst (out.map V.int)))
theorem pe_sortSet {X : Cx} {a : Expr} {ta : TE} {p p2 q pos : Pos} (hg : Gl X "sorted") (hm : X.mg "sorted" = none) (hg2 : Gl X "set") (hm2 : X.mg "set" = none) (ha : PE X a ta) (hc : X.calm = true := by rfl)
    (na : starEach [a] X.env = (false, eval a X.env) :: starEach [] X.env := by rfl) : PE X (.Call (.Name "sorted" p) [.Call (.Name "set" p2) [a] [] q] [] pos) (tSortSet X.K ta) := by
  refine ⟨fun pins s σ H Q I h => ?_⟩
  refine Call_ (ld_blt I hg hm PyProof.Rows.boot_sorted ?_)
  refine PyProof.Rows.callWith_builtin1 (PyProof.Rows.args_cons ?_ rfl) rfl rfl
  refine Call_ (ld_blt I hg2 hm2 PyProof.Rows.boot_set ?_)
  refine PyProof.Rows.callWith_type1 (PyProof.Rows.args_cons (thn (ha.run pins s σ H _ I h) fun v s1 ⟨x, H1, I1, r1, q1⟩ => PyProof.Rows.args_nil ?_) na) na rfl
  obtain ⟨l, ns, rfl, hq, h64, q1⟩ := q1
  cases r1
  obtain ⟨its, rv, pt, hz⟩ := I1.tuple hq
  have hi : IntsAre its.toArray.toList ns := by simpa using RZ.intsAre_vals rv
  refine call_set_tupI ns (I1.ok.hd hc) (show s1.heap.IsTuple l its.toArray from pt) hi (by unfold scanBound; omega) fun h' tk c R1 hcn k => ?_
  refine PyProof.Rows.args_nil ?_
  have I2 : Inv X pins σ H1 { s1 with heap := h', toks := tk } := I1.kept k
  refine sorted_set R1 (I2.ok.hd hc) (by omega) fun s' lp out c2 ns' k2 g o hp hg2' hi2 hs hm2' hl => ?_
  have hlen : (ns'.map V.int).length ≤ sizeLine := by rw [List.length_map, hl, sizeLine_eq]; omega
  have hn : H1 lp = none := I2.hok.fresh hp
  have J : Inv X pins σ (upd H1 lp (.lst (ns'.map V.int))) { s1 with heap := s'.heap, gens := s'.gens, drawn := s'.drawn, toks := s'.toks } :=
    Inv.call (s := { s1 with heap := h', toks := tk }) (ch := []) I2 (Un.laid k2 hp hn) (I2.hok.laid k2 hp ⟨hlen, out.toList, c2, vals_of_ints hi2, hg2'⟩) (by rw [g]; exact I2.bare) (fun _ z => nomatch z)
  have e : s' = { s1 with heap := s'.heap, gens := s'.gens, drawn := s'.drawn, toks := s'.toks } := by
    cases s'
    cases s1
    cases o
    rfl
  rw [e]
  exact ⟨.ref lp, _, J, rfl, q1 lp ns' hs (fun k => by rw [hm2' k]; simp) hn⟩
variable [TB : TabT]
section
variable {K : PySem.W.Frag} {W : WX}
def intsOf (ds : List D) : Option (List Int) := ds.mapM fun d => match d with | .int i => some i | _ => none
/-- sorted(set(x)): the integers of x, each once, ascending -/
def wSortSet (we : EW) : EW := fun τ q e => we τ (fun d τ1 => ∃ ns : List Int, d = .tup (ns.map D.int) ∧ ns.length < 64 ∧ ∀ out : List Int, out.Pairwise (· < ·) → (∀ k, k ∈ out ↔ k ∈ ns) → q (.lst (out.map D.int)) τ1) e
theorem reps_ints {F : Hp} : ∀ {ns : List Int} {xs : List V}, Reps K F xs (ns.map D.int) → xs = ns.map V.int
  | [], _, .nil => rfl
  | n :: ns, _, .cons a r => by
    cases a
    rw [reps_ints r]
    rfl
theorem ints_reps {F : Hp} : ∀ {ns : List Int}, Reps K F (ns.map V.int) (ns.map D.int)
  | [] => .nil
  | n :: ns => .cons (.int n) ints_reps
theorem de_sortSet {t : TE} {w : EW} (h : DE K W t w) : DE K W (tSortSet K t) (wSortSet w) := by
  refine ⟨fun σ H τ F Q q e S hw k x => h.run σ H τ F _ _ e S hw (fun v d τ1 F1 H1 t1 r ⟨ns, ed, h64, hq⟩ => ?_) x⟩
  subst ed
  cases r with
  | @tup a xs _ hs rr =>
    have ex := reps_ints rr
    subst ex
    refine ⟨a, ns, rfl, SqT_mono t1.ok.sub hs, h64, fun l out ho hm hl => ?_⟩
    obtain ⟨x1, x2⟩ := new_ext (o := .lst (out.map V.int)) t1.ok.sub hl
    exact k _ (.lst (out.map D.int)) τ1 _ _ (t1.trans (.small t1.ok x1 x2)) (.lst upd_same ints_reps) (hq out ho hm)
end
end L3

/-! ## except C as x, where x is but asked of by isinstance -/
namespace L3
open PySem PySem.Spec PyProof.Rows L2
variable [TB : TabT]
section
variable {K : PySem.W.Frag} {W : WX}
theorem own_unset {τ : List Cell} {i : Nat} {d : D} {p : Addr} (h : IsOwn (τ.set i (.dat d)) p) : IsOwn τ p := isOwn_set (c := .dat d) (fun a z => z) h
theorem ext_unset {F H F2 H2 : Hp} {τ : List Cell} {i : Nat} {d : D} (x : Ext (τ.set i (.dat d)) F H F2 H2) : Ext τ F H F2 H2 :=
  ⟨x.f, fun a o e => (x.new a o e).imp id fun z => z.imp id own_unset, fun a o e n nt => x.keep a o e (fun z => n (own_unset z)) nt, x.there, x.tabs⟩
theorem grow_unset {H : Hp} {τ τ2 : List Cell} {i : Nat} {d : D} (g : Grow (τ.set i (.dat d)) H τ2) : Grow τ H τ2 := fun p h => (g p h).imp own_unset id
theorem to_unset {F H F2 H2 : Hp} {σ : L2.St} {τ τ2 : List Cell} {i : Nat} {d : D} (t : To K F H σ (τ.set i (.dat d)) F2 H2 τ2) : To K F H σ τ F2 H2 τ2 := ⟨ext_unset t.ext, grow_unset t.grow, t.ok⟩
theorem ret_unset {F H F2 H2 : Hp} {τ τ2 : List Cell} {i : Nat} {d : D} (t : Ret K F H (τ.set i (.dat d)) F2 H2 τ2) : Ret K F H τ F2 H2 τ2 := ⟨ext_unset t.ext, grow_unset t.grow, t.sub, t.own, t.inj⟩
theorem to_none {F H F2 H2 : Hp} {σ : L2.St} {τ τ2 : List Cell} {i : Nat} (t : To K F H σ τ F2 H2 τ2) : To K F H (σ.set i none) τ F2 H2 (τ2.set i .any) :=
  t.at (SOk.wiped (vs := [i]) t.ok (List.length_set ..) fun j hj => by rw [List.getElem?_set_ne (fun z => hj (by rw [z]; exact List.mem_cons_self ..))]) fun p h => isOwn_wipe (vs := [i]) h
/-- what a handler ends in: its name is gone -/
def offE (i : Nat) (E : EndsD) : EndsD := { E with nx := fun τ => E.nx (τ.set i .any), bk := fun τ => E.bk (τ.set i .any), ct := fun τ => E.ct (τ.set i .any) }
def wTryAs (K : PySem.W.Frag) (C : Addr) (i : Nat) (wb : SW) (wh : Addr → Addr → SW) : SW := fun E τ => wb { E with ex := fun x τ' => ∃ b, PySem.W.exmOne K (.ref x.cls) (.ref C) = some b ∧
  (b = true → x.fs = [] ∧ ExcC K x.cls ∧ ∀ a, wh x.cls a (offE i E) (τ'.set i (.dat (.adr a)))) ∧ (b = false → E.ex x τ') } τ
def tAs (K : PySem.W.Frag) (n : Nat) (ts : Addr → Addr → TS) : Addr → Value → Option Addr → TS := fun a cls d Dn σ H => ∃ D : Addr, (cls = .ref D ∧ d = none ∧ ExcC K D) ∧ (σ.length = n → ts D a Dn σ H)
theorem ds_tryAs {C : Addr} {i n : Nat} {tb : WX → TS} {ts : Addr → Addr → TS} {wb : SW} {wh : Addr → Addr → SW} (hb : ∀ W', DS K W' (tb W') wb) (hh : ∀ D a, DS K W (ts D a) (wh D a)) :
    DS K W (fun Dn σ H => tb (L2.wAs K (.ref C) i (tAs K n ts) W Dn) Dn σ H) (wTryAs K C i wb wh) := by
  refine ⟨fun σ H τ F Dn E S hw o => ?_⟩
  refine (hb _).run σ H τ F Dn _ S hw ⟨o.nx, o.bk, o.ct, o.rt, fun σ' x cls dx τ' F' H' t r ⟨b, e1, h1, h2⟩ => ?_, o.rf, o.rg⟩
  refine ⟨b, by rw [r.c]; exact e1, fun z a ha => ?_, fun z => o.ex σ' x cls dx τ' F' H' t r (h2 z)⟩
  obtain ⟨ef, xc, hq⟩ := h1 z
  have ed : dx = none := by
    rcases r.f with ⟨_, h⟩ | ⟨h, _⟩
    · exact h
    · exact absurd ef h
  refine ⟨x.cls, ⟨r.c, ed, xc⟩, fun _ => ?_⟩
  have o1 := o.of t
  refine (hh x.cls a).run (σ'.set i (some (.ref a))) H' (τ'.set i (.dat (.adr a))) F' _ (offE i E) (t.ok.set (.adr a)) (hq a) ?_
  exact ⟨fun σ2 τ2 F2 H2 u q => o1.nx _ _ F2 H2 (to_none (to_unset u)) q, fun σ2 τ2 F2 H2 u q => o1.bk _ _ F2 H2 (to_none (to_unset u)) q, fun σ2 τ2 F2 H2 u q => o1.ct _ _ F2 H2 (to_none (to_unset u)) q,
    fun v d τ2 F2 H2 u r q => o1.rt v d τ2 F2 H2 (ret_unset u) r q, fun σ2 y cls2 dx2 τ2 F2 H2 u r q => o1.ex σ2 y cls2 dx2 τ2 F2 H2 (to_unset u) r q,
    fun p k τ2 F2 H2 u c n q => o1.rf p k τ2 F2 H2 (ret_unset u) c n q, fun p k τ2 F2 H2 u c n q => o1.rg p k τ2 F2 H2 (ret_unset u) c (fun a f => ⟨(n a f).1.imp id own_unset, (n a f).2⟩) q⟩
/-- isinstance(x, C), x the exception that is handled -/
def wIsE (K : PySem.W.Frag) (D a : Addr) (i : Nat) (v : V) : EW := fun τ q _ => τ[i]? = some (.dat (.adr a)) ∧ ∃ (cv : Value) (b : Bool), (∀ u, RelV v u → u = cv) ∧ PySem.W.kitOne K (.ref D) cv = some b ∧ q (.bl b) τ
theorem de_isE {D a : Addr} {i : Nat} {v : V} : DE K W (tCB (rIsE K D a) (tCons (tVar i) (tCons (tC v) tNil))) (wIsE K D a i v) := by
  refine ⟨fun σ H τ F Q q e S ⟨e0, cv, b, hv, hk, hq⟩ k x => ?_⟩
  have hi : i < σ.length := by rw [S.len]; exact (List.getElem?_eq_some_iff.mp e0).1
  obtain ⟨u, eu, ru⟩ := S.slot i σ[i] (.dat (.adr a)) (List.getElem?_eq_getElem hi) e0
  cases ru
  exact ⟨.ref a, by rw [List.getElem?_eq_getElem hi, eu], v, cv, b, rfl, hv, hk, k (.bl b) (.bl b) τ F H (.refl S) (.bl b) hq⟩
end
end L3
namespace L3
open PySem PySem.Spec PyProof.Rows L2
variable [TB : TabT]
theorem pss_as {X : Cx} {l : List Stmt} {ts : Addr → TS} {cls : Value} {d : Option Addr} (h : ∀ D : Addr, cls = .ref D → d = none → ExcC X.K D → PSs X l (ts D)) :
    PSs X l (fun Dn σ H => ∃ D : Addr, (cls = .ref D ∧ d = none ∧ ExcC X.K D) ∧ (σ.length = X.N.length → ts D Dn σ H)) := pss_ex (P := fun D : Addr => cls = .ref D ∧ d = none ∧ ExcC X.K D) fun D hP => h D hP.1 hP.2.1 hP.2.2
theorem call_isE2 {X : Cx} {a D : Addr} {cls : Value} {d : Option Addr} {oe : Obj} {pn : List (Addr × Obj)} (hc : cls = .ref D) (hd : d = none) (C : ExcC X.K D) (hz : Zc cls d oe) (hf : ∃ vs, oe.data = .fields vs) : CallR (X.suite a ((a, oe) :: pn)) (.builtin "isinstance") (rIsE X.K D a) := by
  subst hc
  subst hd
  exact call_isE C hz hf
end L3
namespace L3
open PySem PySem.Spec PyProof.Rows L2
variable [TB : TabT]
theorem o_or2 {K : PySem.W.Frag} {r1 r2 : R2} {g1 g2 : D → D → (D → Prop) → Prop} (h1 : Op2 K r1 g1) (h2 : Op2 K r2 g2) : Op2 K (rOr r1 r2) (gOr g1 g2) := fun F H x y d1 d2 q Q s a b h k =>
  h.elim (fun h => .inl (h1 F H x y d1 d2 q Q s a b h k)) fun h => .inr (h2 F H x y d1 d2 q Q s a b h k)
end L3
namespace L3
open PySem PySem.Spec PyProof.Rows L2
theorem pe_callS0 {X : Cx} {CX : CXT} {k : Nat} {f : Addr} {fd : FuncData} {ps : List Str} {sp : Sp} {E : L2.St → XK} {x : Str} {p pos : Pos} (F : FnOk X.prog X.w X.K X.mg X.base CX k f fd ps sp) (hr : Room k X.A) (hg : Gl X x) (hm : X.mg x = some (.ref f)) (hk : PySem.W.keepIn X.K (.ref f) = true) (hb : Binds X.K fd ps []) (hx : ∀ σ, PassesAt CX X σ (E σ))
    (hdb : (x == ("__debug__" : Str)) = false := by decide) : PE X (.Call (.Name x p) [] [] pos) (tCallS sp E tNil) := by
  refine ⟨fun pins s σ H Q I h => ?_⟩
  refine wpAny_Call_Name_kw (ld_glob I hg hm ?_ hdb)
  exact PySem.W.callWith_K0 I.kIn hk (run_fnS (us := []) F hr hb (hx σ) I .nil h)
end L3
namespace L3
open PySem PySem.Spec PyProof.Rows L2
variable [TB : TabT]
theorem Op2.t {K : PySem.W.Frag} {r : R2} {g : D → D → (D → Prop) → Prop} (h : Op2 K r g) : Op2T K r g := fun F H F0 H0 σ τ τ0 v1 v2 d1 d2 q Q t a b hg k =>
  h F H v1 v2 d1 d2 q Q t.ok.sub a b hg fun v d F' H' x s r hq => k v d F' H' (t.trans (.small t.ok x s)) r hq
end L3

/-! ## xs.count(True), xs.index(True) of a list of flags -/
namespace L3
open PySem PySem.Spec PyProof.Rows L2
variable [TB : TabT]
def rCount (K : PySem.W.Frag) : V → List V → Hp → VK → Prop := fun x xs H Q => ∃ (a : Addr) (ys : List V) (y : V), x = V.ref a ∧ xs = [y] ∧ SqL K H a ys ∧ flatV y = true ∧ ys.all flatV = true ∧ Q (.int (ys.countP (fun z => eqV z y) : Nat)) H
theorem count_eqU {x : V} : ∀ {xs : List V} {us : List Value}, Vals xs us → xs.all flatV = true → us.countP (eqU x) = xs.countP fun y => eqV y x
  | _, _, .nil, _ => rfl
  | y :: xs, u :: us, .cons r t, f => by
    rw [List.all_cons, Bool.and_eq_true] at f
    rw [List.countP_cons, List.countP_cons, count_eqU t f.2, eqU_of r f.1]
theorem mt_count {X : Cx} : MtR X "list.count" (rCount X.K) := by
  intro pins s σ H x xs v us Q I rx rxs h
  obtain ⟨a, ys, y, rfl, rfl, hs, fy, fys, q⟩ := h
  cases rx
  cases rxs with
  | cons ry rt =>
    rename_i uy ut
    cases rt
    obtain ⟨its, rv, ⟨⟨cls, dd, data, sl⟩, n, ho, hc, hdn, hd⟩, hlen⟩ := I.list hs
    simp only at hc hd
    subst hc hd
    refine call_meets PySem.F.slot_list_count ⟨_, ho, rfl⟩ PySem.F.entry_list_count (PySem.F.args_list_count_2 _ _)
      (SeqAt.list_countAt a its.toArray n dd sl uy (eqU y)) ⟨ho, fun u' hu' => mem_eqAt ry fy rv fys u' (by simpa using hu'), ?_⟩
    have ec : its.toArray.toList.countP (eqU y) = ys.countP fun z => eqV z y := count_eqU rv fys
    refine ⟨.int (ys.countP (fun z => eqV z y) : Nat), H, I.tok _, ⟨s.toks, ?_⟩, q⟩
    show Value.int ((its.toArray.toList.countP (eqU y) : Nat) : Int) s.toks = Value.int ((ys.countP (fun z => eqV z y) : Nat) : Int) s.toks
    rw [ec]
section
variable {K : PySem.W.Frag} {W : WX}
theorem bls_flat (bs : List Bool) : (bs.map V.bl).all flatV = true := by
  rw [List.all_eq_true]
  intro x hx
  obtain ⟨b, _, rfl⟩ := List.mem_map.mp hx
  rfl
def wCountB (wl : EW) (w : AW) : EW := fun τ q e => wl τ (fun d τ1 => ∃ bs : List Bool, d = .lst (bs.map D.bl) ∧ w τ1 (fun ds τ2 => ∃ b : Bool, ds = [.bl b] ∧ q (.int (bs.count b : Nat)) τ2) e) e
theorem de_countB {tl : TE} {wl : EW} {t : TA} {w : AW} (hl : DE K W tl wl) (h : DA K W t w) : DE K W (tBM K "list" (rCount K) tl t) (wCountB wl w) := by
  refine ⟨fun σ H τ F Q q e S hw k x => hl.run σ H τ F _ _ e S hw (fun v1 d1 τ1 F1 H1 t1 r1 ⟨bs, ed, h1⟩ => ?_) x⟩
  subst ed
  cases r1 with
  | lst hF rs =>
    rename_i a xs
    have := Reps.bls rs
    subst this
    refine ⟨.inl ⟨rfl, _, .inl (.inl (t1.ok.sub _ _ hF))⟩, ?_⟩
    refine h.run σ H1 τ1 F1 _ _ e t1.ok h1 (fun vs ds τ2 F2 H2 t2 r2 ⟨b, eds, hq⟩ => ?_) (x.of t1)
    subst eds
    obtain ⟨v, rfl, rb⟩ := r2.one
    cases rb
    refine ⟨a, _, .bl b, rfl, rfl, .inl (.inl (t2.ok.sub _ _ (t2.ext.f _ _ hF))), rfl, bls_flat bs, ?_⟩
    have e1 : (bs.map V.bl).countP (fun z => eqV z (.bl b)) = bs.count b := by
      rw [List.countP_map]
      unfold List.count
      rfl
    rw [e1]
    exact k _ _ τ2 _ _ (t1.trans t2) (.int _) hq
def wIndexB (wl : EW) (w : AW) : EW := fun τ q e => wl τ (fun d τ1 => ∃ bs : List Bool, d = .lst (bs.map D.bl) ∧ w τ1 (fun ds τ2 => ∃ (b : Bool) (j : Nat), ds = [.bl b] ∧ bs[j]? = some b ∧ (∀ m, m < j → bs[m]? ≠ some b) ∧ q (.int j) τ2) e) e
theorem de_indexB {tl : TE} {wl : EW} {t : TA} {w : AW} (hl : DE K W tl wl) (h : DA K W t w) : DE K W (tBM K "list" (rIndex K) tl t) (wIndexB wl w) := by
  refine ⟨fun σ H τ F Q q e S hw k x => hl.run σ H τ F _ _ e S hw (fun v1 d1 τ1 F1 H1 t1 r1 ⟨bs, ed, h1⟩ => ?_) x⟩
  subst ed
  cases r1 with
  | lst hF rs =>
    rename_i a xs
    have := Reps.bls rs
    subst this
    refine ⟨.inl ⟨rfl, _, .inl (.inl (t1.ok.sub _ _ hF))⟩, ?_⟩
    refine h.run σ H1 τ1 F1 _ _ e t1.ok h1 (fun vs ds τ2 F2 H2 t2 r2 ⟨b, j, eds, hj, hno, hq⟩ => ?_) (x.of t1)
    subst eds
    obtain ⟨v, rfl, rb⟩ := r2.one
    cases rb
    refine ⟨a, _, .bl b, j, .bl b, rfl, rfl, .inl (.inl (t2.ok.sub _ _ (t2.ext.f _ _ hF))), rfl, bls_flat bs, ?_, ?_, fun m z' hm hz => ?_, k _ _ τ2 _ _ (t1.trans t2) (.int _) hq⟩
    · rw [List.getElem?_map, hj]
      rfl
    · show (b == b) = true
      exact beq_self_eq_true b
    · rw [List.getElem?_map] at hz
      obtain ⟨c, ec, rfl⟩ := Option.map_eq_some_iff.mp hz
      show (c == b) = false
      exact beq_eq_false_iff_ne.mpr fun z => hno m hm (by rw [ec, z])
end
end L3

/-! ## zip of three, tuples or lists -/
namespace L3
open PySem PySem.Spec PyProof.Rows L2
variable [TB : TabT]
def ItzK3 (K : PySem.W.Frag) (p q r : Bool) (a b c : Addr) : It :=
  ⟨fun i H => ∃ (xs ys zs : List V) (x y z : V), SqK K p H a xs ∧ SqK K q H b ys ∧ SqK K r H c zs ∧ xs[i]? = some x ∧ ys[i]? = some y ∧ zs[i]? = some z,
    fun i H v H' => ∃ T x y z, v = .ref T ∧ H T = none ∧ H' = upd H T (.tup [x, y, z]) ∧ (∀ xs, SqK K p H a xs → xs[i]? = some x) ∧ (∀ ys, SqK K q H b ys → ys[i]? = some y) ∧ ∀ zs, SqK K r H c zs → zs[i]? = some z,
    fun i H => ∃ xs ys zs : List V, SqK K p H a xs ∧ SqK K q H b ys ∧ SqK K r H c zs ∧ i ≤ xs.length ∧ i ≤ ys.length ∧ i ≤ zs.length ∧ (i = xs.length ∨ i = ys.length ∨ i = zs.length)⟩
theorem sep3 {n a b c : Nat} (ha : a < n) (hb : b < n) (hc : c < n) : ZipSep3 (n + 5) (n + 3) (n + 4) n (n + 1) (n + 2) [n, a] [n + 1, b] [n + 2, c] := by
  have n0 : ∀ {x y : Nat}, x < y → x ≠ y := fun h => Nat.ne_of_lt h
  have n1 : ∀ {x y : Nat}, y < x → x ≠ y := fun h => Nat.ne_of_gt h
  constructor
  all_goals first
    | exact n0 (by omega)
    | exact n1 (by omega)
    | exact List.mem_cons_self ..
    | (simp only [List.mem_cons, List.not_mem_nil, or_false, not_or]; exact ⟨by first | exact n0 (by omega) | exact n1 (by omega), by first | exact n0 (by omega) | exact n1 (by omega)⟩)
theorem turn_zipK3 {P : Program} {w : World} {K : PySem.W.Frag} {elts : List Expr} {kk : Nat} {tpos : Pos} {p q r : Bool} {a b c z TI TO i1 i2 i3 : Addr} (D : ZipSep3 z TI TO i1 i2 i3 [i1, a] [i2, b] [i3, c]) (na : a ≠ i1) (nb : b ≠ i2) (nc : c ≠ i3) :
    Turn P w K (.Tuple elts kk tpos) (ItzK3 K p q r a b c) [z, TI, TO, i1, i2, i3] z (fun i h => IsZip h z TI TO .none ∧ IsTupOf3 h TI (.ref i1) (.ref i2) (.ref i3) ∧ (∃ x y w, IsTupOf3 h TO x y w) ∧ ItK p h i1 a i ∧ ItK q h i2 b i ∧ ItK r h i3 c i) where
  mem := by simp
  obj := fun i h st c' hc => by
    obtain ⟨hz, hTI, ⟨x, y, w, hTO⟩, h1, h2, h3⟩ := st
    have e' : c' = z ∨ c' = TI ∨ c' = TO ∨ c' = i1 ∨ c' = i2 ∨ c' = i3 := by simpa using hc
    rcases e' with q | q | q | q | q | q
    · rw [q]; exact ⟨_, hz, fun v q => nomatch q⟩
    · rw [q]; exact ⟨_, hTI, fun v q => nomatch q⟩
    · rw [q]; exact ⟨_, hTO, fun v q => nomatch q⟩
    · rw [q]; exact it_obj h1
    · rw [q]; exact it_obj h2
    · rw [q]; exact it_obj h3
  keep := fun i h h' st k => by
    obtain ⟨hz, hTI, ⟨x, y, w, hTO⟩, h1, h2, h3⟩ := st
    exact ⟨k z (by simp) _ hz, k TI (by simp) _ hTI, ⟨x, y, w, k TO (by simp) _ hTO⟩, at_K h1 fun o q => k i1 (by simp) o q, at_K h2 fun o q => k i2 (by simp) o q, at_K h3 fun o q => k i3 (by simp) o q⟩
  item := by
    intro X hP hw hK hc i pins s σ H E I hf st hg
    subst hP hw hK
    obtain ⟨hz, hTI, ⟨x0, y0, w0, hTO⟩, h1, h2, h3⟩ := st
    obtain ⟨xs, ys, zs, x, y, zz, hqx, hqy, hqz, hx, hy, hzz⟩ := hg
    obtain ⟨its, rv, g1, la⟩ := seq_K I hqx
    obtain ⟨its2, rv2, g2, lb⟩ := seq_K I hqy
    obtain ⟨its3, rv3, g3, lc⟩ := seq_K I hqz
    obtain ⟨u, hu, ru⟩ := rv.get hx
    obtain ⟨u2, hu2, ru2⟩ := rv2.get hy
    obtain ⟨u3, hu3, ru3⟩ := rv3.get hzz
    have hzl : z < s.heap.objs.size := Heap.lt_size hz
    have hi1 : i < its.toArray.size := by have := (List.getElem?_eq_some_iff.mp hu).1; simpa using this
    have hi2 : i < its2.toArray.size := by have := (List.getElem?_eq_some_iff.mp hu2).1; simpa using this
    have hi3 : i < its3.toArray.size := by have := (List.getElem?_eq_some_iff.mp hu3).1; simpa using this
    refine wpAny_pyNext_zipD3_item D (draws_K (A := X.A.in1) p (show X.A.in1.handled = none from I.ok.hd hc) i1 a na its.toArray) (draws_K (A := X.A.in1) q (show X.A.in1.handled = none from I.ok.hd hc) i2 b nb its2.toArray) (draws_K (A := X.A.in1) r (show X.A.in1.handled = none from I.ok.hd hc) i3 c nc its3.toArray)
      hz hTI hTO ⟨h1, g1⟩ ⟨h2, g2⟩ ⟨h3, g3⟩ hi1 hi2 hi3 fun v1 v2 v3 h' tk e1 e2 e3 z' TO' h1' h2' h3' hT hsz hk => ?_
    have e1 : v1 = u := by
      have : its.toArray[i]? = some u := by simpa using hu
      rw [this] at e1; exact (Option.some.inj e1).symm
    have e2 : v2 = u2 := by
      have : its2.toArray[i]? = some u2 := by simpa using hu2
      rw [this] at e2; exact (Option.some.inj e2).symm
    have e3 : v3 = u3 := by
      have : its3.toArray[i]? = some u3 := by simpa using hu3
      rw [this] at e3; exact (Option.some.inj e3).symm
    subst e1
    subst e2
    subst e3
    refine ⟨_, rfl, wpAny_letOwnedTupleGo_zip (s := { s with heap := h', toks := tk }) z' fun h'' z'' sb => ?_⟩
    have hT2 : h''.get? s.heap.objs.size = some { cls := .type "tuple", data := .seq #[v1, v2, v3] } := (sb.2 _ (Nat.ne_of_gt hzl)).trans hT
    have new : ObjOk X.prog X.w (upd H s.heap.objs.size (.tup [x, y, zz])) h'' s.heap.objs.size (.tup [x, y, zz]) :=
      ⟨by show 3 ≤ sizeLine; decide, [v1, v2, v3], .cons ru (.cons ru2 (.cons ru3 .nil)), ⟨_, hT2, rfl, _, rfl⟩⟩
    have I1 : Inv X pins σ (upd H s.heap.objs.size (.tup [x, y, zz])) { s with heap := h'', toks := tk } :=
      I.turnedNew (t' := tk) (ch := [z, TI, TO, i1, i2, i3]) (fun c o hb q => (sb.2 c (fun q' => hb (by simp [q']))).trans (hk c o (fun q' => hb (by simp [q'])) (fun q' => hb (by simp [q'])) (fun q' => hb (by simp [q'])) (fun q' => hb (by simp [q'])) (fun q' => hb (by simp [q'])) q)) hf (Nat.le_refl _) new
    refine ⟨.ref s.heap.objs.size, _, I1, rfl, ⟨_, x, y, zz, rfl, I.hok.fresh (Nat.le_refl _), rfl, fun l hl => by rw [inj_K I hl hqx]; exact hx, fun l hl => by rw [inj_K I hl hqy]; exact hy, fun l hl => by rw [inj_K I hl hqz]; exact hzz⟩, ⟨z'', ?_, ⟨v1, v2, v3, ?_⟩, ?_, ?_, ?_⟩, fun c hcm => ?_⟩
    · exact (sb.2 _ D.TIz).trans (hk _ _ D.TIz D.TITO D.TIi1 D.TIi2 D.TIi3 hTI)
    · exact (sb.2 _ D.TOz).trans TO'
    · exact at_K h1'.1 fun o q => (sb.2 _ D.zi1.symm).trans q
    · exact at_K h2'.1 fun o q => (sb.2 _ D.zi2.symm).trans q
    · exact at_K h3'.1 fun o q => (sb.2 _ D.zi3.symm).trans q
    · have hlt : c < s.heap.objs.size := by
        have e' : c = z ∨ c = TI ∨ c = TO ∨ c = i1 ∨ c = i2 ∨ c = i3 := by simpa using hcm
        rcases e' with q | q | q | q | q | q
        · rw [q]; exact hzl
        · rw [q]; exact Heap.lt_size hTI
        · rw [q]; exact Heap.lt_size hTO
        · rw [q]; obtain ⟨_, e1, _⟩ := it_obj h1; exact Heap.lt_size e1
        · rw [q]; obtain ⟨_, e2, _⟩ := it_obj h2; exact Heap.lt_size e2
        · rw [q]; obtain ⟨_, e3, _⟩ := it_obj h3; exact Heap.lt_size e3
      rw [upd_ne (Nat.ne_of_lt hlt)]
      exact (hf c hcm).1
  done := by
    intro X hP hw hK hc i pins s σ H E I hf st hg
    subst hP hw hK
    obtain ⟨hz, hTI, ⟨x0, y0, w0, hTO⟩, h1, h2, h3⟩ := st
    obtain ⟨xs, ys, zs, hqx, hqy, hqz, l1, l2, l3, hend⟩ := hg
    obtain ⟨its, rv, g1, la⟩ := seq_K I hqx
    obtain ⟨its2, rv2, g2, lb⟩ := seq_K I hqy
    obtain ⟨its3, rv3, g3, lc⟩ := seq_K I hqz
    have e1 := rv.length
    have e2 := rv2.length
    have e3 := rv3.length
    exact wpAny_pyNext_zipD3_end D (draws_K (A := X.A.in1) p (show X.A.in1.handled = none from I.ok.hd hc) i1 a na its.toArray) (draws_K (A := X.A.in1) q (show X.A.in1.handled = none from I.ok.hd hc) i2 b nb its2.toArray) (draws_K (A := X.A.in1) r (show X.A.in1.handled = none from I.ok.hd hc) i3 c nc its3.toArray)
      hz hTI hTO ⟨h1, g1⟩ ⟨h2, g2⟩ ⟨h3, g3⟩ (by simp; omega) (by simp; omega) (by simp; omega) (by simp; omega) fun h' tk hk => ⟨rfl, I.turnedL (t' := tk) (ch := [z, TI, TO, i1, i2, i3]) (fun c o hb q =>
      hk c o (fun q' => hb (by simp [q'])) (fun q' => hb (by simp [q'])) (fun q' => hb (by simp [q'])) (fun q' => hb (by simp [q'])) (fun q' => hb (by simp [q'])) q) hf⟩
  self := fun A i s Q E st h => wpAny_pyIter_zip st.1 h
def iZipK3 (K : PySem.W.Frag) (ta : TA) : TI := fun σ H R => ta σ H fun vs H1 => ∃ p q r a b c xs ys zs, vs = [.ref a, .ref b, .ref c] ∧ SqK K p H1 a xs ∧ SqK K q H1 b ys ∧ SqK K r H1 c zs ∧ R (ItzK3 K p q r a b c) H1
theorem pi_zipK3 {X : Cx} {e e2 e3 : Expr} {ta : TA} {p pos tpos : Pos} {elts : List Expr} {kk : Nat} (hg : Gl X "zip") (hm : X.mg "zip" = none) (ha : PA X [e, e2, e3] ta)
    (hs : starEach [e, e2, e3] X.env = (false, eval e X.env) :: starEach [e2, e3] X.env := by rfl) (hpl : (backTo pos (starEach [e2, e3] X.env)).any (·.1) = false := by rfl) :
    PI X (.Tuple elts kk tpos) (.Call (.Name "zip" p) [e, e2, e3] [] pos) (iZipK3 X.K ta) := by
  refine ⟨fun pins s σ H R I h => ?_⟩
  refine Call_ (ld_blt I hg hm PyProof.Rows.boot_zip (PyProof.Rows.callWith_type1 (thn (ha.run pos pins s σ H _ I h) fun us s1 ⟨vs, H1, I1, r1, q1⟩ => ?_) hs hpl))
  obtain ⟨bp, bq, br, a, b, c, xs, ys, zs, ex, hqx, hqy, hqz, q⟩ := q1
  subst ex
  cases r1 with
  | cons r rr =>
    cases rr with
    | cons r' rr =>
      cases rr with
      | cons r'' rr =>
        cases rr
        cases r
        cases r'
        cases r''
        have fresh6 : ∀ d, d ∈ [s1.heap.objs.size + 5, s1.heap.objs.size + 3, s1.heap.objs.size + 4, s1.heap.objs.size, s1.heap.objs.size + 1, s1.heap.objs.size + 2] → FpOk X pins H1 d := fun d hcm => by
          have e' : d = s1.heap.objs.size + 5 ∨ d = s1.heap.objs.size + 3 ∨ d = s1.heap.objs.size + 4 ∨ d = s1.heap.objs.size ∨ d = s1.heap.objs.size + 1 ∨ d = s1.heap.objs.size + 2 := by simpa using hcm
          have hle : s1.heap.objs.size ≤ d := by
            rcases e' with z | z | z | z | z | z
            · rw [z]; exact Nat.le_add_right _ _
            · rw [z]; exact Nat.le_add_right _ _
            · rw [z]; exact Nat.le_add_right _ _
            · rw [z]; exact Nat.le_refl _
            · rw [z]; exact Nat.le_add_right _ _
            · rw [z]; exact Nat.le_add_right _ _
          exact I1.fpOk hle (I1.hok.fresh hle)
        obtain ⟨its, rv, g1, la⟩ := seq_K I1 hqx
        obtain ⟨its2, rv2, g2, lb⟩ := seq_K I1 hqy
        obtain ⟨its3, rv3, g3, lc⟩ := seq_K I1 hqz
        refine zip_begins3 (begins_K bp a its.toArray) (begins_K bq b its2.toArray) (begins_K br c its3.toArray) g1 g2 g3 fun h' hz hTI hTO h1 h2 h3 hsz hk => wpAny_pyIter_zip hz ?_
        have I2 : Inv X pins σ H1 { s1 with heap := h' } := I1.kept (t' := s1.toks) hk
        exact ⟨s1.heap.objs.size + 5, [s1.heap.objs.size + 5, s1.heap.objs.size + 3, s1.heap.objs.size + 4, s1.heap.objs.size, s1.heap.objs.size + 1, s1.heap.objs.size + 2], _, _, H1, rfl, I2, turn_zipK3 (sep3 la lb lc) (Nat.ne_of_lt la) (Nat.ne_of_lt (Nat.lt_succ_of_lt lb)) (Nat.ne_of_lt (Nat.lt_succ_of_lt (Nat.lt_succ_of_lt lc))), ⟨hz, hTI, ⟨_, _, _, hTO⟩, new_it h1, new_it h2, new_it h3⟩, fresh6, q⟩
section
variable {K : PySem.W.Frag} {W : WX}
def zipD3 : List D → List D → List D → List D
  | x :: xs, y :: ys, z :: zs => .tup [x, y, z] :: zipD3 xs ys zs
  | _, _, _ => []
theorem zipD3_length : ∀ (xs ys zs : List D), (zipD3 xs ys zs).length = min (min xs.length ys.length) zs.length
  | [], _, _ => by simp [zipD3]
  | _ :: _, [], _ => by simp [zipD3]
  | _ :: _, _ :: _, [] => by simp [zipD3]
  | x :: xs, y :: ys, z :: zs => by
    show (zipD3 xs ys zs).length + 1 = _
    rw [zipD3_length xs ys zs]
    simp only [List.length_cons]
    omega
theorem zip3_get : ∀ {xs ys zs : List D} {i : Nat}, i < (zipD3 xs ys zs).length → ∃ x y z, xs[i]? = some x ∧ ys[i]? = some y ∧ zs[i]? = some z ∧ (zipD3 xs ys zs)[i]? = some (.tup [x, y, z])
  | [], _, _, _, h => by simp [zipD3] at h
  | _ :: _, [], _, _, h => by simp [zipD3] at h
  | _ :: _, _ :: _, [], _, h => by simp [zipD3] at h
  | x :: xs, y :: ys, z :: zs, 0, _ => ⟨x, y, z, rfl, rfl, rfl, rfl⟩
  | x :: xs, y :: ys, z :: zs, i + 1, h => by
    have h' : i < (zipD3 xs ys zs).length := Nat.lt_of_succ_lt_succ h
    obtain ⟨a, b, c, e1, e2, e3, e4⟩ := zip3_get h'
    exact ⟨a, b, c, by simpa using e1, by simpa using e2, by simpa using e3, by show (zipD3 xs ys zs)[i]? = _; exact e4⟩
def wZipK3 (wa : AW) : IW := fun τ q e => wa τ (fun ds τ' => ∃ x y z xs ys zs, ds = [x, y, z] ∧ seqD x = some xs ∧ seqD y = some ys ∧ seqD z = some zs ∧ q (zipD3 xs ys zs) τ') e
theorem di_zipK3 {t : TA} {w : AW} (h : DA K W t w) : DI K W (iZipK3 K t) (wZipK3 w) := by
  refine ⟨fun σ H τ F R q e S hw k x => h.run σ H τ F _ _ e S hw (fun vs ds τ' F' H' t' r ⟨d1, d2, d3, xs, ys, zs, ed, e1, e2, e3, hq⟩ => ?_) x⟩
  subst ed
  obtain ⟨v, v', v'', rfl, r1, r2, r3⟩ := r.three
  obtain ⟨p, a, us, rfl, h1, h2⟩ := r1.seqK e1
  obtain ⟨b, c, ws, rfl, h3, h4⟩ := r2.seqK e2
  obtain ⟨g, f, ts, rfl, h5, h6⟩ := r3.seqK e3
  refine ⟨p, b, g, a, c, f, us, ws, ts, rfl, SqK_mono t'.ok.sub h1, SqK_mono t'.ok.sub h3, SqK_mono t'.ok.sub h5, k _ _ τ' F' H' t' ?_ hq⟩
  refine ⟨fun i F2 H s s2 hi => ?_, fun F2 H s s2 => ?_, fun i F2 H x H' s s2 hi y => ?_⟩
  · obtain ⟨x, y, z, e1, e2, e3, _⟩ := zip3_get hi
    obtain ⟨v, g1, _⟩ := h2.getD e1
    obtain ⟨u, g2, _⟩ := h4.getD e2
    obtain ⟨t, g3, _⟩ := h6.getD e3
    exact ⟨us, ws, ts, v, u, t, SqK_mono (s.trans s2) h1, SqK_mono (s.trans s2) h3, SqK_mono (s.trans s2) h5, g1, g2, g3⟩
  · have l : (zipD3 xs ys zs).length = min (min us.length ws.length) ts.length := by rw [zipD3_length, h2.length, h4.length, h6.length]
    exact ⟨us, ws, ts, SqK_mono (s.trans s2) h1, SqK_mono (s.trans s2) h3, SqK_mono (s.trans s2) h5, by omega, by omega, by omega, by omega⟩
  · obtain ⟨T, u, v, t, rfl, hT, rfl, e1, e2, e3⟩ := y
    have e1 := e1 us (SqK_mono (s.trans s2) h1)
    have e2 := e2 ws (SqK_mono (s.trans s2) h3)
    have e3 := e3 ts (SqK_mono (s.trans s2) h5)
    obtain ⟨a, b, c, f1, f2, f3, f4⟩ := zip3_get hi
    obtain ⟨a', g1, g2⟩ := (h2.mono s).get e1
    obtain ⟨b', g3, g4⟩ := (h4.mono s).get e2
    obtain ⟨c', g5, g6⟩ := (h6.mono s).get e3
    rw [f1] at g1; cases g1
    rw [f2] at g3; cases g3
    rw [f3] at g5; cases g5
    obtain ⟨x1, x2⟩ := new_ext (o := .tup [u, v, t]) s2 hT
    have sm := new_same (o := .tup [u, v, t]) s2 hT
    exact ⟨_, _, f4, x1, x2, .tup (.inl (.inl upd_same)) (.cons (g2.mono sm) (.cons (g4.mono sm) (.cons (g6.mono sm) .nil)))⟩
end
end L3

/-! ## a tuple, so many times -/
namespace L3
open PySem PySem.Spec PyProof.Rows L2
variable [TB : TabT]
section
variable {K : PySem.W.Frag} {W : WX}
def gRepT : D → D → (D → Prop) → Prop := fun x y q => ∃ (ds : List D) (k : Int), x = .tup ds ∧ y = .int k ∧ ds ≠ [] ∧ 2 ≤ k ∧ k ≤ 1000 ∧ ds.length ≤ 1000 ∧ q (.tup (List.replicate k.toNat ds).flatten)
theorem Reps.repl {F : Hp} {xs : List V} {ds : List D} (r : Reps K F xs ds) : ∀ n : Nat, Reps K F (List.replicate n xs).flatten (List.replicate n ds).flatten
  | 0 => .nil
  | n + 1 => by
    rw [List.replicate_succ, List.replicate_succ, List.flatten_cons, List.flatten_cons]
    exact r.append (Reps.repl r n)
theorem o_repT : Op2 K (rRepT K) gRepT := by
  rintro F H x y d1 d2 q Q s r1 r2 ⟨ds, n, rfl, rfl, hne, h2, h1000, hl, hq⟩ k
  cases r1 with
  | @tup a xs _ h1 r1 =>
    cases r2
    refine ⟨a, n, xs, rfl, rfl, SqT_mono s h1, fun z => hne ?_, h2, h1000, by rw [r1.length]; exact hl, fun p hp => ?_⟩
    · subst z
      cases r1
      rfl
    · obtain ⟨x1, x2⟩ := new_ext (o := .tup (List.replicate n.toNat xs).flatten) s hp
      exact k _ (.tup (List.replicate n.toNat ds).flatten) _ _ x1 x2 (.tup (.inl (.inl upd_same)) ((r1.repl n.toNat).mono (new_same s hp))) hq
end
end L3

/-! ## an own list out of [e] * n and of list(range(n)); x[k] -= e -/
namespace L3
open PySem PySem.Spec PyProof.Rows L2
variable [TB : TabT]
section
variable {K : PySem.W.Frag} {W : WX}
theorem Reps.rep {F : Hp} {xs : List V} {ds : List D} (h : Reps K F xs ds) : ∀ n : Nat, Reps K F (List.replicate n xs).flatten (List.replicate n ds).flatten
  | 0 => .nil
  | n + 1 => by
    rw [List.replicate_succ, List.replicate_succ, List.flatten_cons, List.flatten_cons]
    exact h.append (Reps.rep h n)
/-- x = a * n, a a list: a list of the name's own -/
def wRepOwn (i : Nat) (wa wb : EW) : SW := fun E τ => wa τ (fun d1 τ1 => wb τ1 (fun d2 τ2 => ∃ as n, d1 = .lst as ∧ d2 = .int n ∧ -1000 ≤ n ∧ n ≤ 1000 ∧ as.length ≤ 1000 ∧ ∀ p, E.nx (τ2.set i (.own p (.lst (List.replicate n.toNat as).flatten)))) E.ex) E.ex
theorem ds_repOwn {i : Nat} {ta tb : TE} {wa wb : EW} (ha : DE K W ta wa) (hb : DE K W tb wb) : DS K W (tAsg (tOp rRep ta tb) (gName i)) (wRepOwn i wa wb) := by
  refine ⟨fun σ H τ F Dn E S hw o => ha.run σ H τ F _ _ E.ex S hw (fun v1 d1 τ1 F1 H1 t1 r1 h1 => ?_) o.xto⟩
  refine hb.run σ H1 τ1 F1 _ _ E.ex t1.ok h1 (fun v2 d2 τ2 F2 H2 t2 r2 h2 => ?_) (o.of t1).xto
  obtain ⟨as, n, rfl, rfl, n0, n1, hl, hq⟩ := h2
  have r1 := r1.mono t2.ext.f
  cases r1 with
  | @lst a xs _ h1 r1 =>
    refine ⟨a, n, xs, rfl, r2.int_of, t2.ok.sub _ _ h1, by omega, by omega, ?_, fun p hp => ?_⟩
    · rw [r1.length]
      have h2 : as.length * n.toNat ≤ 1000 * 1000 := Nat.mul_le_mul hl (by omega)
      exact Nat.le_trans h2 (by decide)
    · exact o.nx _ _ F2 _ (to_own (t1.trans t2) hp (.lst (r1.rep _))) (hq p)
/-- x[k] -= e, x an own list of ints -/
def wAugSOwn (i : Nat) (wk we : EW) : SW := fun E τ => (∃ p es, τ[i]? = some (.own p (.lst es))) ∧ wk τ (fun k τ1 => ∃ p es n a, τ1[i]? = some (.own p (.lst es)) ∧ k = .int n ∧ 0 ≤ n ∧ es[n.toNat]? = some (.int a) ∧ we τ1 (fun d τ2 => ∃ es2 b, τ2[i]? = some (.own p (.lst es2)) ∧ es2.length = es.length ∧ d = .int b ∧ E.nx (τ2.set i (.own p (.lst (es2.set n.toNat (.int (a - b))))))) E.ex) E.ex
theorem ds_augSOwn {i : Nat} {t u : TE} {w v : EW} (h : DE K W t w) (g : DE K W u v) : DS K W (tAugS (tVar i) t u rGetN (ipI fun a b => a - b) rSetL) (wAugSOwn i w v) := by
  refine ⟨fun σ H τ F Dn E S ⟨⟨p, es, e0⟩, hw⟩ o => ?_⟩
  obtain ⟨s0, _, vs0, h0, _⟩ := own_lst S e0
  refine ⟨.ref p, s0, ?_⟩
  refine h.run σ H τ F _ _ E.ex S hw (fun y kd τ1 F1 H1 t1 r1 ⟨p', es', n, a, e1, ek, n0, ea, hq⟩ => ?_) o.xto
  subst ek
  obtain ⟨s1, _, vs1, h1, r2⟩ := own_lst t1.ok e1
  rw [s0] at s1
  cases s1
  obtain ⟨vv, ev, rv⟩ := r2.getD ea
  refine ⟨p, vs1, n, vv, rfl, r1.int_of, h1, n0, ev, ?_⟩
  refine g.run σ H1 τ1 F1 _ _ E.ex t1.ok hq (fun x d τ2 F2 H2 t2 r3 ⟨es2, b, e2, hl, ed, hn⟩ => ?_) (o.of t1).xto
  subst ed
  refine ⟨a, b, rv.int_of, r3.int_of, ?_⟩
  obtain ⟨s2, _, vs2, h2, r4⟩ := own_lst t2.ok e2
  rw [s0] at s2
  cases s2
  have hlt : n.toNat < es'.length := (List.getElem?_eq_some_iff.mp ea).1
  refine ⟨p, vs2, n, n.toNat, rfl, r1.int_of, h2, ?_, ?_⟩
  · have : n = ((n.toNat : Nat) : Int) := by omega
    rw [this]
    exact ixN_ltN (by rw [r4.length]; omega)
  · exact o.nx σ _ F2 _ (to_change (t1.trans t2) e2 (.lst (Reps.set (.int _) _ r4))) hn
/-- x = list(range(n)): a list of the name's own -/
def wListRgOwn (i : Nat) (we : EW) : SW := fun E τ => we τ (fun d τ' => ∃ n, d = .int n ∧ 0 ≤ n ∧ n ≤ 1000 ∧ ∀ p, E.nx (τ'.set i (.own p (.lst (rangeD 0 n.toNat))))) E.ex
theorem ds_listRgOwn {i : Nat} {t : TE} {w : EW} (h : DE K W t w) : DS K W (tAsg (tLstRg (tRg1 t)) (gName i)) (wListRgOwn i w) := by
  refine ⟨fun σ H τ F Dn E S hw o => h.run σ H τ F _ _ E.ex S hw (fun v d τ' F' H' t' r ⟨n, ed, n0, n1, hq⟩ => ?_) o.xto⟩
  subst ed
  refine ⟨n, r.int_of, ⟨by omega, by omega, by omega, by omega, by omega⟩, fun p hp => ?_⟩
  have hr := rg_reps (K := K) (F := F') (a := 0) (b := n)
  rw [Int.sub_zero] at hr
  exact o.nx _ _ F' _ (to_own t' hp (.lst hr)) (hq p)
/-- a list times an int, as data -/
def gRepL : D → D → (D → Prop) → Prop := fun x y q => ∃ (ds : List D) (k : Int), x = .lst ds ∧ y = .int k ∧ -1000 ≤ k ∧ k ≤ 1000 ∧ ds.length ≤ 1000 ∧ q (.lst (List.replicate k.toNat ds).flatten)
theorem o_repL : Op2 K rRep gRepL := by
  rintro F H x y d1 d2 q Q s r1 r2 ⟨as, k, rfl, rfl, k0, k1, hl, hq⟩ hk
  cases r1 with
  | @lst a xs _ h1 r1 =>
    refine ⟨a, k, xs, rfl, r2.int_of, s _ _ h1, by omega, by omega, ?_, fun p hp => ?_⟩
    · rw [r1.length]
      have h2 : as.length * k.toNat ≤ 1000 * 1000 := Nat.mul_le_mul hl (by omega)
      exact Nat.le_trans h2 (by decide)
    · obtain ⟨x1, x2⟩ := new_ext (o := .lst (List.replicate k.toNat xs).flatten) s hp
      exact hk _ _ _ _ x1 x2 (.lst upd_same ((r1.mono (new_same s hp)).rep _)) hq
/-- a comprehension into an own list, as filter and map -/
theorem lc_own {ds : List D} {τ1 : List Cell} {wg : GW} {wt : TW} {we : EW} {vs : List Nat} {i : Nat} {nx : List Cell → Prop} (f : D → D) (p : D → Bool) (hn : ds.length ≤ 1000)
    (hs : ∀ d ∈ ds, ∀ (k1 : D → List Cell → Prop) (k2 : List Cell → Prop), (p d = true → ∀ τ5, wipeD τ5 vs = wipeD τ1 vs → k1 (f d) τ5) → (p d = false → ∀ τ5, wipeD τ5 vs = wipeD τ1 vs → k2 τ5) →
      wg d (wipeD τ1 vs) fun τ3 => wt τ3 (fun b τ4 => (b = true → we τ4 k1 noX) ∧ (b = false → k2 τ4)) noX)
    (hq : ∀ a, nx ((wipeD τ1 vs).set i (.own a (.lst ((ds.filter p).map f))))) :
    ds.length ≤ 1000 ∧ ∃ inv : Nat → List D → List Cell → Prop, inv 0 [] (wipeD τ1 vs) ∧
    (∀ i d acc τ2, ds[i]? = some d → inv i acc τ2 → acc.length ≤ i → wg d τ2 fun τ3 => wt τ3 (fun b τ4 => (b = true → we τ4 (fun y τ5 => inv (i + 1) (acc ++ [y]) (wipeD τ5 vs)) noX) ∧ (b = false → inv (i + 1) acc (wipeD τ4 vs))) noX) ∧
    ∀ acc τ2, inv ds.length acc (wipeD τ2 vs) → acc.length ≤ ds.length → ∀ a, nx ((wipeD τ2 vs).set i (.own a (.lst acc))) := by
  obtain ⟨h1, inv, h2, h3, h4⟩ := lc_fm (q := fun d τ => ∃ acc, d = .lst acc ∧ ∀ a, nx (τ.set i (.own a (.lst acc)))) f p hn hs ⟨_, rfl, hq⟩
  refine ⟨h1, inv, h2, h3, fun acc τ2 h hl a => ?_⟩
  obtain ⟨acc', e1, e2⟩ := h4 acc τ2 h hl
  cases e1
  exact e2 a
end
end L3

/-! ## x.pop(k) as a value; isinstance with a tuple of types -/
namespace L3
open PySem PySem.Spec PyProof.Rows L2
variable [TB : TabT]
section
variable {K : PySem.W.Frag} {W : WX}
/-- x.pop(k), x an own list -/
def wPopAt (i : Nat) (we : EW) : EW := fun τ q e => (∃ p es, τ[i]? = some (.own p (.lst es))) ∧ we τ (fun kd τ1 => ∃ p es n d, τ1[i]? = some (.own p (.lst es)) ∧ kd = .int n ∧ 0 ≤ n ∧ n < 1000000 ∧ es[n.toNat]? = some d ∧ q d (τ1.set i (.own p (.lst (es.eraseIdx n.toNat))))) e
theorem de_popAt {i : Nat} {t : TE} {w : EW} (h : DE K W t w) : DE K W (tBM K "list" rPopAt (tVar i) (tCons t tNil)) (wPopAt i w) := by
  refine ⟨fun σ H τ F Q q e S ⟨⟨p, es, e0⟩, hw⟩ k x => ?_⟩
  obtain ⟨s0, _, vs0, h0, _⟩ := own_lst S e0
  refine ⟨.ref p, s0, .inl ⟨rfl, vs0, .inl (.inl h0)⟩, ?_⟩
  refine h.run σ H τ F _ _ e S hw (fun y kd τ1 F1 H1 t1 r1 ⟨p', es', n, d, e1, ek, n0, n1, ed, hq⟩ => ?_) x
  subst ek
  obtain ⟨s1, _, vs1, h1, r2⟩ := own_lst t1.ok e1
  rw [s0] at s1
  cases s1
  obtain ⟨v, ev, rv⟩ := r2.getD ed
  have hlt : n.toNat < vs1.length := (List.getElem?_eq_some_iff.mp ev).1
  refine ⟨p, vs1, n, n.toNat, v, rfl, by rw [r1.int_of], h1, by omega, by omega, ?_, ev, ?_⟩
  · have e : n = ((n.toNat : Nat) : Int) := by omega
    rw [e]
    unfold seqIndex?
    simp
    omega
  · exact k v d _ F1 _ (to_change t1 e1 (.lst (r2.erase _))) rv hq
/-- isinstance(e, (A, B)) -/
def wIsiT (K : PySem.W.Frag) (A B : String) (we : EW) : EW := fun τ q e => we τ (fun d τ' => ∃ b, TyOk K d ∧ PySem.W.kitAny K (tyD d) [.type A, .type B] = some b ∧ q (.bl b) τ') e
theorem de_isiT {A B : String} {t : TE} {w : EW} (h : DE K W t w) : DE K W (tCB (rIsiT K) (tCons t (tCons (tTup (tCons (tC (.ty A)) (tCons (tC (.ty B)) tNil))) tNil))) (wIsiT K A B w) := by
  refine ⟨fun σ H τ F Q q e S hw k x => ?_⟩
  refine h.run σ H τ F _ _ e S hw (fun v d τ1 F1 H1 t1 r1 ⟨b, ok, hb, hq⟩ => ?_) x
  refine ⟨(show (2 : Nat) ≤ sizeLine by decide), fun p hp => ?_⟩
  obtain ⟨x1, x2⟩ := new_ext (o := .tup [.ty A, .ty B]) t1.ok.sub hp
  have sm := new_same (o := .tup [.ty A, .ty B]) t1.ok.sub hp
  refine ⟨v, p, [.ty A, .ty B], _, [.type A, .type B], b, rfl, upd_same, .cons (.ty A) (.cons (.ty B) .nil), ?_, hb, ?_⟩
  · exact TyX_mono (x2) ((r1.mono sm).tyO ok)
  · exact k (.bl b) (.bl b) τ1 _ _ (t1.trans (.small t1.ok x1 x2)) (.bl b) hq
end
end L3

/-! ## x += e and x -= e, x a name that holds an int -/
namespace L3
open PySem PySem.Spec PyProof.Rows L2
variable [TB : TabT]
section
variable {K : PySem.W.Frag} {W : WX}
def wAugV (f : Int → Int → Int) (i : Nat) (we : EW) : SW := fun E τ => ∃ a, τ[i]? = some (.dat (.int a)) ∧ we τ (fun d τ' => ∃ b, d = .int b ∧ E.nx (τ'.set i (.dat (.int (f a b))))) E.ex
theorem ds_augV {f : Int → Int → Int} {i : Nat} {t : TE} {w : EW} (h : DE K W t w) : DS K W (tAug i t (ipI f)) (wAugV f i w) := by
  refine ⟨fun σ H τ F Dn E S ⟨a, e0, hw⟩ o => ?_⟩
  have hi : i < σ.length := by rw [S.len]; exact (List.getElem?_eq_some_iff.mp e0).1
  obtain ⟨v, e1, r⟩ := S.slot i σ[i] _ (List.getElem?_eq_getElem hi) e0
  refine ⟨v, by rw [List.getElem?_eq_getElem hi, e1], ?_⟩
  refine h.run σ H τ F _ _ E.ex S hw (fun y d τ1 F1 H1 t1 r1 ⟨b, ed, hq⟩ => ?_) o.xto
  subst ed
  refine ⟨a, b, r.int_of, r1.int_of, ?_⟩
  exact o.nx _ _ F1 H1 (t1.at (t1.ok.set (.int _)) (fun p h => isOwn_set (c := .dat _) (fun a z => z) h)) hq
/-- a, b, c = e1, e2, e3 -/
def wPar3 (i j l : Nat) (wa : AW) : SW := fun E τ => wa τ (fun ds τ' => ∃ d d' d'', ds = [d, d', d''] ∧ E.nx (((τ'.set i (.dat d)).set j (.dat d')).set l (.dat d''))) E.ex
theorem ds_par3 {i j l : Nat} {t : TA} {w : AW} (h : DA K W t w) : DS K W (tPar3 i j l t) (wPar3 i j l w) := by
  refine ⟨fun σ H τ F Dn E S hw o => h.run σ H τ F _ _ E.ex S hw (fun vs ds τ' F' H' t' r ⟨d, d', d'', e, hq⟩ => ?_) o.xto⟩
  subst e
  cases r with
  | cons r1 r =>
    obtain ⟨v', v'', rfl, r2, r3⟩ := r.two
    refine ⟨_, v', v'', rfl, ?_⟩
    refine o.nx _ _ F' H' (t'.at (((t'.ok.set r1).set r2).set r3) fun p h => ?_) hq
    exact isOwn_set (c := .dat d) (fun a z => z) (isOwn_set (c := .dat d') (fun a z => z) (isOwn_set (c := .dat d'') (fun a z => z) h))
end
end L3

/-! ## a def that calls what it is handed and tells whether the error's field is a given number -/
namespace L3
open PySem PySem.Spec PyProof.Rows L2
variable [TB : TabT]
section
variable {K : PySem.W.Frag} {W : WX}
def lateE (f : Str) (N : Int) (tell : Addr → Prop) (Q : VK) : XK := fun cls d H' => ∃ (C dd : Addr) (vs : List (Str × V)) (n : Int), cls = .ref C ∧ d = some dd ∧ H' dd = some (.xd vs) ∧ vs.lookup f = some (.int n) ∧ tell C ∧ Q (.bl (decide (V.int n = V.int N))) H'
def lateTT (f : Str) (N : Int) (tell : Addr → Prop) : (XK → Hp → VK → Prop) → Hp → VK → Prop := fun tl H Q => ∀ (E : XK) (Q' : VK),
  (∀ cls d H', lateE f N tell Q cls d H' → E cls d H') → (∀ v H', Q (.bl (decide (V.int 0 = V.int N))) H' → Q' v H') → tl E H Q'
def wLate (f : Str) (N : Int) (tell : Addr → Prop) (w : EW) : EW := fun τ q _ => w τ (fun _ τ' => q (.bl (decide ((0 : Int) = N))) τ') (fun x τ' => ∃ n : Int, x.fs = [(f, .int n)] ∧ tell x.cls ∧ q (.bl (decide (n = N))) τ')
theorem dec_int {a b : Int} : decide (V.int a = V.int b) = decide (a = b) := by
  by_cases h : a = b
  · subst h; simp
  · have : V.int a ≠ V.int b := fun z => h (V.int.inj z)
    rw [decide_eq_false h, decide_eq_false this]
theorem de_late {f : Str} {N : Int} {tell : Addr → Prop} {t : XK → TE} {w : EW} (h : ∀ E : XK, DE K (fun cls d _ H => E cls d H) (t E) w) : DE K W (LamX.tLam TB.T (lateTT f N tell) t) (wLate f N tell w) := by
  refine ⟨fun σ H τ F Q q e S hw k x => ⟨S.tabs.1, fun H1 hx ht E Q' hE hQ => ?_⟩⟩
  have s1 : Same F H1 := fun a o e => hx a o (S.sub a o e) (S.tabs.2 a o e)
  have x1 : Ext [] F H F H1 := ⟨Same.refl F, fun _ _ e => .inl e, fun a o e _ nt => hx a o e nt, fun a fr o e nt => fr o (hx a o e nt) nt, fun g => ⟨ht, g.2⟩⟩
  have t1 : To K F H σ τ F H1 τ := .small S x1 s1
  refine (h E).run σ H1 τ F Q' _ _ t1.ok hw (fun v d τ' F' H' t' r hq => hQ v H' ?_) (fun y cls dx τ' F' H' t' r hq => hE cls dx H' ?_)
  · rw [dec_int]
    exact k _ (.bl (decide ((0 : Int) = N))) τ' _ _ (t1.trans t') (.bl _) hq
  · obtain ⟨n, hf, ht, hq⟩ := hq
    rcases r.f with z | ⟨_, dd, vs, rfl, hd, fr⟩
    · rw [hf] at z; cases z.1
    rw [hf] at fr
    obtain ⟨v, e1, rv⟩ := fr.lookup (f := f) (d := .int n) (by simp [List.lookup])
    cases rv
    refine ⟨y.cls, dd, vs, n, r.c, rfl, hd, e1, ht, ?_⟩
    rw [dec_int]
    exact k _ (.bl (decide (n = N))) τ' _ _ (t1.trans t') (.bl _) hq
end
end L3

/-! ## dicts: of one's own, and as data -/
namespace L3
open PySem PySem.Spec PyProof.Rows L2
variable [TB : TabT]
section
variable {K : PySem.W.Frag} {W : WX}
/-- what a cell has for its own is changed, or something new comes to it -/
theorem own_mut {F H F1 H1 H2 : Hp} {σ : L2.St} {τ τ1 : List Cell} {i : Nat} {p : Addr} {k k2 : Cont} (t : To K F H σ τ F1 H1 τ1) (e : τ1[i]? = some (.own p k))
    (same : ∀ a u, H1 a = some u → NT u → ¬ Has (.own p k) a → H2 a = some u) (fr : ∀ a, Fr H2 a → Fr H1 a) (tabs : LamX.Tabs TB.T H1 → LamX.Tabs TB.T H2)
    (ok : CellOk K F1 H2 (.own p k2)) (hs : ∀ a, Has (.own p k2) a → Has (.own p k) a ∨ H1 a = none) : To K F H σ τ F1 H2 (τ1.set i (.own p k2)) := by
  have oh : ∀ {a}, Has (.own p k) a → IsOwn τ1 a := fun {a} h => ⟨i, _, e, h⟩
  have oF : ∀ {a}, Has (.own p k) a → F1 a = none := fun {a} h => ((t.ok.own i _ e).has h).1
  have sF : ∀ a u, F1 a = some u → H2 a = some u := fun a u h => same a u (t.ok.sub a u h) (t.ok.tabs.2 a u h) fun z => by
    rw [oF z] at h
    cases h
  have nOwn : ∀ {a}, H1 a = none → ¬ IsOwn τ1 a := fun {a} h z => by
    obtain ⟨_, u, hu, _⟩ := t.ok.own.has z
    rw [h] at hu
    cases hu
  refine ⟨⟨t.ext.f, t.ext.new, fun a u h z nt => ?_, fun a h => t.ext.there a (fr a h), fun g => ⟨tabs (t.ext.tabs g).1, (t.ext.tabs g).2⟩⟩, fun q ⟨j, c, h, f⟩ => ?_, ⟨⟨tabs t.ok.tabs.1, t.ok.tabs.2⟩, sF, by rw [List.length_set]; exact t.ok.len, fun j s c h1 h2 => ?_, fun j c h => ?_, t.ok.inj.set fun a f j d nj h f2 => ?_⟩⟩
  · refine same a u (t.ext.keep a u h z nt) nt fun y => ?_
    rcases t.grow a (oh y) with g | g
    · exact z g
    · exact g u h nt
  · rcases set_get h with ⟨_, rfl, _⟩ | ⟨_, h⟩
    · rcases hs q f with y | y
      · exact t.grow q (oh y)
      · exact .inr (t.ext.there q (fr_none y))
    · exact t.grow q ⟨j, c, h, f⟩
  · rcases set_get h2 with ⟨rfl, rfl, _⟩ | ⟨_, h2⟩
    · exact (show s = some (.ref p) from t.ok.slot j s _ h1 e)
    · exact t.ok.slot j s c h1 h2
  · rcases set_get h with ⟨rfl, rfl, _⟩ | ⟨n, h⟩
    · exact ok
    · refine (t.ok.own j c h).move (Same.refl _) fun a f => ⟨((t.ok.own j c h).has f).1, fun u hu nt => same a u hu nt fun z => n (t.ok.inj j i c _ a h e f z)⟩
  · rcases hs a f with y | y
    · exact nj (t.ok.inj j i d _ a h e f2 y)
    · exact nOwn y ⟨j, d, h, f2⟩
theorem own_get {F H : Hp} {σ : L2.St} {τ : List Cell} {i : Nat} {p : Addr} {k : Cont} (S : SOk K F H σ τ) (e : τ[i]? = some (.own p k)) : σ[i]? = some (some (.ref p)) ∧ CellOk K F H (.own p k) := by
  have hi : i < σ.length := by rw [S.len]; exact (List.getElem?_eq_some_iff.mp e).1
  have h : σ[i] = some (.ref p) := S.slot i σ[i] _ (List.getElem?_eq_getElem hi) e
  exact ⟨by rw [List.getElem?_eq_getElem hi, h], S.own i _ e⟩
/-- a name's own dict becomes data, and is locked for good; or it is data -/
def tFrzD (i : Nat) : TE := fun σ H Q => ∃ d, σ[i]? = some (some (.ref d)) ∧ ((∃ u, H d = some u ∧ Mut (some u) ∧ ∀ od, Q (.ref d) (upd H d (.frz od u))) ∨ Q (.ref d) H)
theorem pe_frzD {X : Cx} {e : Expr} {i : Nat} (h : PE X e (tVar i)) : PE X e (tFrzD i) := by
  refine ⟨fun pins s σ H Q I ⟨d, hs, hw⟩ => ?_⟩
  rcases hw with ⟨u, hu, mu, hq⟩ | hq
  · obtain ⟨od, I1⟩ := I.lock hu mu
    exact h.run pins s σ _ Q I1 ⟨.ref d, hs, hq od⟩
  · exact h.run pins s σ _ Q I ⟨.ref d, hs, hq⟩
def unA (x : Key × Addr × List Int) : Key × List Int := (x.1, x.2.2)
def dlD (kvs : List (Key × List Int)) : List (Key × D) := kvs.map fun x => (x.1, .lst (x.2.map D.int))
def dcOf : Cont → Option D
  | .dk kvs => some (.dc kvs)
  | .dt kvs => some (.dtc kvs)
  | .dl kvs => some (.dc (dlD (kvs.map unA)))
  | _ => none
def wFrzD (i : Nat) : EW := fun τ q _ => (∃ p k d, τ[i]? = some (.own p k) ∧ dcOf k = some d ∧ q d (τ.set i (.dat d))) ∨ (∃ d, τ[i]? = some (.dat d) ∧ (∃ kvs, d = .dc kvs) ∧ q d τ) ∨ (∃ d, τ[i]? = some (.dat d) ∧ (∃ kvs, d = .dtc kvs) ∧ q d τ)
theorem to_frzD {F H : Hp} {σ : L2.St} {τ : List Cell} {i : Nat} {p : Addr} {k : Cont} {d : D} {u : HO} {od : Obj} (S : SOk K F H σ τ) (e : τ[i]? = some (.own p k)) (hu : H p = some u) (F' : Hp)
    (h1 : F' p = some (.frz od u)) (h2 : ∀ a, a ≠ p → Has (.own p k) a → F' a = H a) (h3 : ∀ a, ¬ Has (.own p k) a → F' a = F a) (tb : LamX.Tabs TB.T H → LamX.Tabs TB.T (upd H p (.frz od u))) (nt : ∀ a o, Has (.own p k) a → H a = some o → NT o)
    (r : Rep K F' (.ref p) d) : To K F H σ τ F' (upd H p (.frz od u)) (τ.set i (.dat d)) := by
  obtain ⟨s0, co⟩ := own_get S e
  have hp : Has (.own p k) p := .inl rfl
  have oF : ∀ {a}, Has (.own p k) a → F a = none := fun {a} h => (co.has h).1
  have nf : ∀ {o : Obj} {u : HO}, NT (.frz o u) := fun ps z => by cases z
  have sF : Same F F' := fun a o h => by
    rw [h3 a fun z => by rw [oF z] at h; cases h]
    exact h
  have ntF : ∀ a o, F' a = some o → NT o := fun a o h => by
    by_cases hh : Has (.own p k) a
    · by_cases q : a = p
      · subst q; rw [h1] at h; cases h; exact nf
      · rw [h2 a q hh] at h; exact nt a o hh h
    · rw [h3 a hh] at h; exact S.tabs.2 a o h
  have sub : Same F' (upd H p (.frz od u)) := fun a o h => by
    by_cases q : a = p
    · subst q; rw [upd_same]; rw [h1] at h; exact h
    · rw [upd_ne q]
      by_cases hh : Has (.own p k) a
      · rw [h2 a q hh] at h; exact h
      · rw [h3 a hh] at h; exact S.sub a o h
  refine ⟨⟨sF, fun a o h => ?_, fun a o h z nt => ?_, fun a h => ?_, fun g => ⟨tb g.1, ntF⟩⟩, fun q h => .inl (isOwn_set (c := .dat d) (fun a z => z) h), ⟨⟨tb S.tabs.1, ntF⟩, sub, by rw [List.length_set]; exact S.len, fun j s c g1 g2 => ?_, fun j c g => ?_, S.inj.set fun a z => z.elim⟩⟩
  · by_cases hh : Has (.own p k) a
    · exact .inr (.inr ⟨i, _, e, hh⟩)
    · rw [h3 a hh] at h; exact .inl h
  · rw [upd_ne (fun q => z (by subst q; exact isOwn_at e))]; exact h
  · by_cases q : a = p
    · subst q; exact (h _ upd_same nf).elim
    · exact fun o g => h o (by rw [upd_ne q]; exact g)
  · rcases set_get g2 with ⟨rfl, rfl, _⟩ | ⟨_, g2⟩
    · rw [s0] at g1
      cases g1
      exact ⟨_, rfl, r⟩
    · exact (S.slot j s c g1 g2).mono sF
  · rcases set_get g with ⟨_, rfl, _⟩ | ⟨n, g⟩
    · exact trivial
    · refine (S.own j c g).move sF fun a f => ?_
      have no : ¬ Has (.own p k) a := fun z => n (S.inj j i c _ a g e f z)
      refine ⟨by rw [h3 a no]; exact ((S.own j c g).has f).1, fun u hu _ => ?_⟩
      rw [upd_ne (fun q => no (by subst q; exact hp))]
      exact hu
theorem tabs_frz {T : List (Addr × Str)} {H : Hp} {p : Addr} {o u : HO} (h : H p = some u) (hu : (∃ v, u = .dK v) ∨ ∃ v, u = .dT v) : LamX.Tabs T H → LamX.Tabs T (upd H p o) :=
  tabs_upd fun v e => by
    rw [h] at e
    cases e
    rcases hu with ⟨v, rfl⟩ | ⟨v, rfl⟩
    · exact ⟨fun ps z => (by cases z), fun c q z => (by unfold LamX.CodeO at z; cases z)⟩
    · exact ⟨fun ps z => (by cases z), fun c q z => (by unfold LamX.CodeO at z; cases z)⟩
theorem krep_dl {F' : Hp} : ∀ {kvs : List (Key × Addr × List Int)}, (∀ x ∈ kvs, F' x.2.1 = some (.lst (x.2.2.map V.int))) → KRep K F' (kvs.map fun x => (x.1, V.ref x.2.1)) (dlD (kvs.map unA))
  | [], _ => .nil
  | x :: r, h => .cons (.lst (h x (by simp)) Reps.ints) (krep_dl fun y hy => h y (by simp [hy]))
theorem de_frzD (i : Nat) : DE K W (tFrzD i) (wFrzD i) := by
  refine ⟨fun σ H τ F Q q e S hw k _ => ?_⟩
  rcases hw with ⟨p, c, d, e0, hd, hq⟩ | hw
  · obtain ⟨s0, f0, u, hu, cr, so⟩ := own_get S e0
    refine ⟨p, s0, .inl ⟨u, hu, ?_, fun od => ?_⟩⟩
    · cases cr <;> exact trivial
    · cases cr with
      | @dk vs ds r =>
        cases hd
        have no : ∀ a, a ≠ p → ¬ Has (.own p (.dk ds)) a := fun a n h => h.elim n id
        have sF : Same F (upd F p (.frz od (.dK vs))) := same_upd f0
        exact k _ _ _ _ _ (to_frzD S e0 hu (upd F p (.frz od (.dK vs))) upd_same (fun a n h => absurd h (no a n)) (fun a n => upd_ne fun z => n (.inl z)) (tabs_frz hu (.inl ⟨_, rfl⟩)) (fun a o h g => by
          rcases h with rfl | h
          · rw [hu] at g; cases g; exact fun ps z => by cases z
          · exact h.elim) (.dc upd_same (r.mono sF))) (.dc upd_same (r.mono sF)) hq
      | @dt vs ds r =>
        cases hd
        have no : ∀ a, a ≠ p → ¬ Has (.own p (.dt ds)) a := fun a n h => h.elim n id
        have sF : Same F (upd F p (.frz od (.dT vs))) := same_upd f0
        exact k _ _ _ _ _ (to_frzD S e0 hu (upd F p (.frz od (.dT vs))) upd_same (fun a n h => absurd h (no a n)) (fun a n => upd_ne fun z => n (.inl z)) (tabs_frz hu (.inr ⟨_, rfl⟩)) (fun a o h g => by
          rcases h with rfl | h
          · rw [hu] at g; cases g; exact fun ps z => by cases z
          · exact h.elim) (.dtc upd_same (r.mono sF))) (.dtc upd_same (r.mono sF)) hq
      | @dl kvs =>
        cases hd
        classical
        let F' : Hp := fun a => if a = p then some (.frz od (.dK (kvs.map fun x => (x.1, V.ref x.2.1)))) else if ∃ x ∈ kvs, a = x.2.1 then H a else F a
        have hF' : ∀ a, F' a = if a = p then some (.frz od (.dK (kvs.map fun x => (x.1, V.ref x.2.1)))) else if ∃ x ∈ kvs, a = x.2.1 then H a else F a := fun _ => rfl
        have sq : ∀ x ∈ kvs, F' x.2.1 = some (.lst (x.2.2.map V.int)) := fun x hx => by
          rw [hF', if_neg (so.2 x hx).1, if_pos ⟨x, hx, rfl⟩]
          exact (so.2 x hx).2.2
        refine k _ _ _ _ _ (to_frzD S e0 hu F' (by rw [hF', if_pos rfl]) (fun a n h => ?_) (fun a n => ?_) (tabs_frz hu (.inl ⟨_, rfl⟩)) (fun a o h g => ?_) (.dc (by rw [hF', if_pos rfl]) (krep_dl sq))) (.dc (by rw [hF', if_pos rfl]) (krep_dl sq)) hq
        · rw [hF', if_neg n, if_pos (show ∃ x ∈ kvs, a = x.2.1 from h.resolve_left n)]
        · rw [hF', if_neg (fun z => n (.inl z)), if_neg (show ¬ ∃ x ∈ kvs, a = x.2.1 from fun z => n (.inr z))]
        · rcases h with rfl | ⟨x, hx, rfl⟩
          · rw [hu] at g; cases g; exact fun ps z => by cases z
          · rw [(so.2 x hx).2.2] at g; cases g; exact nt_lst
      | _ => cases hd
  · rcases hw with ⟨d, e0, ⟨kvs, rfl⟩, hq⟩ | ⟨d, e0, ⟨kvs, rfl⟩, hq⟩
    · have hi : i < σ.length := by rw [S.len]; exact (List.getElem?_eq_some_iff.mp e0).1
      obtain ⟨v, hv, r⟩ := S.slot i σ[i] _ (List.getElem?_eq_getElem hi) e0
      cases r with
      | @dc a od vs _ h r' => exact ⟨a, by rw [List.getElem?_eq_getElem hi, hv], .inr (k _ _ τ F H (.refl S) (.dc h r') hq)⟩
    · have hi : i < σ.length := by rw [S.len]; exact (List.getElem?_eq_some_iff.mp e0).1
      obtain ⟨v, hv, r⟩ := S.slot i σ[i] _ (List.getElem?_eq_getElem hi) e0
      cases r with
      | @dtc a od vs _ h r' => exact ⟨a, by rw [List.getElem?_eq_getElem hi, hv], .inr (k _ _ τ F H (.refl S) (.dtc h r') hq)⟩

theorem lt1 {k : Nat} {A : Around} (r : Room k A) : A.units + 1 < cLine := by have := r.un; omega
/-! ### the keys as data, d[k], k in d -/
def keD : Key → D | .inl i => .int i | .inr x => .str x
theorem rep_key {F : Hp} (k : Key) : Rep K F (kV k) (keD k) := by
  cases k with
  | inl i => exact .int i
  | inr x => exact .str x
theorem KRep.length {F : Hp} : ∀ {vs : List (Key × V)} {ds : List (Key × D)}, KRep K F vs ds → vs.length = ds.length
  | _, _, .nil => rfl
  | _, _, .cons _ r => by rw [List.length_cons, List.length_cons, KRep.length r]
theorem KRep.keys {F : Hp} : ∀ {vs : List (Key × V)} {ds : List (Key × D)}, KRep K F vs ds → vs.map Prod.fst = ds.map Prod.fst
  | _, _, .nil => rfl
  | _, _, .cons _ r => by rw [List.map_cons, List.map_cons, KRep.keys r]
def valD {α : Type} [DecidableEq α] (kvs : List (α × D)) (k : α) : Option D := (kvs.find? fun kv => decide (kv.1 = k)).map (·.2)
theorem KRep.val {F : Hp} (k : Key) : ∀ {vs : List (Key × V)} {ds : List (Key × D)}, KRep K F vs ds → (valV vs k = none ∧ valD ds k = none) ∨ ∃ v d, valV vs k = some v ∧ valD ds k = some d ∧ Rep K F v d
  | _, _, .nil => .inl ⟨rfl, rfl⟩
  | _, _, .cons (k := k') (v := v) (d := d) h r => by
    by_cases e : k' = k
    · refine .inr ⟨v, d, ?_, ?_, h⟩
      · simp [valV, List.find?_cons, e]
      · simp [valD, List.find?_cons, e]
    · have := KRep.val k r
      simpa [valV, valD, List.find?_cons, e] using this
def wKeys (we : EW) : IW := fun τ q e => we τ (fun d τ' => ∃ kvs, d = .dc kvs ∧ q (kvs.map fun x => keD x.1) τ') e
theorem di_keys {t : TE} {w : EW} (h : DE K W t w) : DI K W (iKeys t) (wKeys w) := by
  refine ⟨fun σ H τ F R q e S hw k x => h.run σ H τ F _ _ e S hw (fun v d τ' F' H' t' r ⟨kvs, ed, hq⟩ => ?_) x⟩
  subst ed
  cases r with
  | @dc a od vs _ hF r =>
    refine ⟨a, od, rfl, .inl ⟨vs, t'.ok.sub _ _ hF, k _ (kvs.map fun x => keD x.1) τ' F' H' t' ⟨fun i F2 H s1 s2 hi => ?_, fun F2 H s1 s2 => ?_, fun i F2 H y H' s1 s2 hi hy => ?_⟩ hq⟩⟩
    · rw [List.length_map] at hi
      exact ⟨s2 _ _ (s1 _ _ hF), by rw [r.length]; exact hi⟩
    · refine ⟨s2 _ _ (s1 _ _ hF), ?_⟩
      show vs.length ≤ _
      rw [r.length, List.length_map]
      exact Nat.le_refl _
    · obtain ⟨rfl, key, u, e1, rfl⟩ := hy
      refine ⟨keD key, F2, ?_, .refl _ _ _, s2, rep_key key⟩
      have e2 : (vs.map Prod.fst)[i]? = some key := by rw [List.getElem?_map, e1]; rfl
      rw [r.keys, List.getElem?_map] at e2
      rw [List.getElem?_map]
      obtain ⟨x, ex, hx⟩ := Option.map_eq_some_iff.mp e2
      rw [ex]
      show some (keD x.1) = _
      rw [hx]
theorem key_of {F : Hp} {y : V} {k : Key} (r : Rep K F y (keD k)) : y = kV k := by
  cases k with
  | inl i => cases r; rfl
  | inr x => cases r; rfl
/-- d[k], d data -/
def wDGet (wd wk : EW) : EW := fun τ q e => wd τ (fun d τ1 => wk τ1 (fun y τ2 => ∃ kvs k v, d = .dc kvs ∧ y = keD k ∧ valD kvs k = some v ∧ q v τ2) e) e
theorem de_dget {td ty : TE} {wd wk : EW} (hd : DE K W td wd) (hk : DE K W ty wk) : DE K W (tDGet td ty) (wDGet wd wk) := by
  refine ⟨fun σ H τ F Q q e S hw k x => ?_⟩
  refine hd.run σ H τ F _ _ e S hw (fun v1 d1 τ1 F1 H1 t1 r1 h1 => ?_) x
  refine hk.run σ H1 τ1 F1 _ _ e t1.ok h1 (fun v2 d2 τ2 F2 H2 t2 r2 ⟨kvs, key, v, e1, e2, e3, hq⟩ => ?_) (x.of t1)
  subst e1; subst e2
  have r1 := r1.mono t2.ext.f
  cases r1 with
  | @dc a od vs _ hF r =>
    obtain rfl := key_of r2
    rcases r.val key with ⟨_, z⟩ | ⟨u, d, z1, z2, rv⟩
    · rw [e3] at z; cases z
    · rw [e3] at z2
      cases z2
      exact ⟨a, u, rfl, .inl ⟨vs, key, .inr ⟨od, t2.ok.sub _ _ hF⟩, rfl, z1.symm⟩, k u v τ2 F2 H2 (t1.trans t2) rv hq⟩
def wDIn (wk wd : EW) : EW := fun τ q e => wk τ (fun y τ1 => wd τ1 (fun d τ2 => ∃ kvs k, d = .dc kvs ∧ y = keD k ∧ q (.bl (valD kvs k).isSome) τ2) e) e
theorem de_din {td ty : TE} {wd wk : EW} (hk : DE K W ty wk) (hd : DE K W td wd) : DE K W (tDIn ty td) (wDIn wk wd) := by
  refine ⟨fun σ H τ F Q q e S hw k x => ?_⟩
  refine hk.run σ H τ F _ _ e S hw (fun v1 d1 τ1 F1 H1 t1 r1 h1 => ?_) x
  refine hd.run σ H1 τ1 F1 _ _ e t1.ok h1 (fun v2 d2 τ2 F2 H2 t2 r2 ⟨kvs, key, e1, e2, hq⟩ => ?_) (x.of t1)
  subst e1; subst e2
  obtain rfl := key_of r1
  cases r2 with
  | @dc a od vs _ hF r =>
    refine ⟨a, valV vs key, rfl, .inl ⟨vs, key, .inr ⟨od, t2.ok.sub _ _ hF⟩, rfl, rfl⟩, ?_⟩
    have e : (valV vs key).isSome = (valD kvs key).isSome := by
      rcases r.val key with ⟨z1, z2⟩ | ⟨u, d, z1, z2, _⟩ <;> rw [z1, z2] <;> rfl
    rw [e]
    exact k _ _ τ2 F2 H2 (t1.trans t2) (.bl _) hq
/-! ### x = {} -/
def wDkNew (i : Nat) : SW := fun E τ => ∀ p, E.nx (τ.set i (.own p (.dk [])))
theorem ds_dkNew {i : Nat} : DS K W (tAsg tDNewK (gName i)) (wDkNew i) := by
  refine ⟨fun σ H τ F Dn E S hw o p hp => ?_⟩
  exact o.nx _ _ F _ (to_own (.refl S) hp (.dk .nil)) (hw p)
def wDtNew (i : Nat) : SW := fun E τ => ∀ p, E.nx (τ.set i (.own p (.dt [])))
theorem ds_dtNew {i : Nat} : DS K W (tAsg tDNewT (gName i)) (wDtNew i) := by
  refine ⟨fun σ H τ F Dn E S hw o p hp => ?_⟩
  exact o.nx _ _ F _ (to_own (.refl S) hp (.dt .nil)) (hw p)
theorem dl_foot {kvs : List (Key × Addr × List Int)} {p a : Addr} (h : Has (.own p (.dl kvs)) a) : a = p ∨ ∃ x ∈ kvs, a = x.2.1 := h
def wDlNew (i : Nat) : SW := fun E τ => ∀ p, E.nx (τ.set i (.own p (.dl [])))
theorem ds_dlNew {i : Nat} : DS K W (tAsg tDNewK (gName i)) (wDlNew i) := by
  refine ⟨fun σ H τ F Dn E S hw o p hp => ?_⟩
  have t : To K F H σ τ F H τ := .refl S
  have nO := new_not_own S hp
  have nF := new_not_data S hp
  have T2 := t.touch (o := .dK []) (fr_none hp) nF nO (tabs_new hp)
  have one : ∀ a, Has (.own p (.dl [])) a → a = p := fun a h => (dl_foot h).elim id fun ⟨x, hx, _⟩ => by cases hx
  refine o.nx _ _ F _ ⟨T2.ext, grow_set T2 fun a f => by rw [one a f]; exact fr_none hp, T2.ok.setOwn ⟨nF, _, upd_same, .dl (kvs := []), List.nodup_nil, fun x hx => by cases hx⟩ fun a f => by rw [one a f]; exact nO⟩ (hw p)
/-! ### x.setdefault(k, []).append(v) -/
/-- what is appended to the list at k -/
def appD : List (Key × List Int) → Key → Int → List (Key × List Int)
  | [], k, m => [(k, [m])]
  | (k', ns) :: r, k, m => if k' = k then (k', ns ++ [m]) :: r else (k', ns) :: appD r k m
def wDlApp (i : Nat) (wk : EW) (j : Nat) : SW := fun E τ => (∃ p kvs, τ[i]? = some (.own p (.dl kvs))) ∧ wk τ (fun y τ1 => ∃ p kvs n m, τ1[i]? = some (.own p (.dl kvs)) ∧ y = .int n ∧ τ1[j]? = some (.dat (.int m)) ∧ kvs.length < 1000 ∧ (∀ x ∈ kvs, x.2.2.length < 1000) ∧
  ∀ kvs2, kvs2.map unA = appD (kvs.map unA) (.inl n) m → E.nx (τ1.set i (.own p (.dl kvs2)))) E.ex
theorem val_split {k : Key} : ∀ {kvs : List (Key × Addr × List Int)} {v : V}, valV (kvs.map fun x => (x.1, V.ref x.2.1)) k = some v → ∃ pre x post, kvs = pre ++ x :: post ∧ x.1 = k ∧ v = .ref x.2.1 ∧ ∀ y ∈ pre, y.1 ≠ k
  | [], v, h => by simp [valV] at h
  | x :: r, v, h => by
    by_cases e : x.1 = k
    · simp [valV, List.find?_cons, e] at h
      exact ⟨[], x, r, rfl, e, h.symm, fun y hy => by cases hy⟩
    · have h' : valV (r.map fun x => (x.1, V.ref x.2.1)) k = some v := by simpa [valV, List.find?_cons, e] using h
      obtain ⟨pre, y, post, e1, e2, e3, e4⟩ := val_split h'
      refine ⟨x :: pre, y, post, by rw [e1]; rfl, e2, e3, fun z hz => ?_⟩
      rcases List.mem_cons.mp hz with rfl | hz
      · exact e
      · exact e4 z hz
theorem val_none {k : Key} : ∀ {kvs : List (Key × Addr × List Int)}, valV (kvs.map fun x => (x.1, V.ref x.2.1)) k = none → ∀ y ∈ kvs, y.1 ≠ k
  | [], _, y, hy => by cases hy
  | x :: r, h, y, hy => by
    by_cases e : x.1 = k
    · simp [valV, List.find?_cons, e] at h
    · have h' : valV (r.map fun x => (x.1, V.ref x.2.1)) k = none := by simpa [valV, List.find?_cons, e] using h
      rcases List.mem_cons.mp hy with rfl | hy
      · exact e
      · exact val_none h' y hy
theorem appD_at {k : Key} {m : Int} {x : Key × Addr × List Int} {post : List (Key × Addr × List Int)} (hx : x.1 = k) : ∀ {pre : List (Key × Addr × List Int)}, (∀ y ∈ pre, y.1 ≠ k) → (pre ++ (x.1, x.2.1, x.2.2 ++ [m]) :: post).map unA = appD ((pre ++ x :: post).map unA) k m
  | [], _ => by simp [appD, unA, hx]
  | y :: r, h => by
    have ih := appD_at (m := m) (post := post) hx (pre := r) fun z hz => h z (by simp [hz])
    simp only [List.cons_append, List.map_cons]
    rw [ih]
    simp [appD, unA, h y (by simp)]
theorem appD_none {k : Key} {m : Int} : ∀ {kvs : List (Key × Addr × List Int)}, (∀ y ∈ kvs, y.1 ≠ k) → appD (kvs.map unA) k m = kvs.map unA ++ [(k, [m])]
  | [], _ => rfl
  | y :: r, h => by
    have ih := appD_none (m := m) (kvs := r) fun z hz => h z (by simp [hz])
    simp [appD, unA, h y (by simp)] at ih ⊢
    exact ih
theorem putK_none {k : Key} {v : V} {kvs : List (Key × Addr × List Int)} (h : ∀ y ∈ kvs, y.1 ≠ k) : putK (kvs.map fun x => (x.1, V.ref x.2.1)) k v = (kvs.map fun x => (x.1, V.ref x.2.1)) ++ [(k, v)] := by
  have e : ((kvs.map fun x => (x.1, V.ref x.2.1)).any fun kv => decide (kv.1 = k)) = false := by
    rw [List.any_eq_false]
    intro x hx
    obtain ⟨y, hy, rfl⟩ := List.mem_map.mp hx
    simpa using h y hy
  unfold putK
  rw [e]
  rfl
theorem ds_dlApp {i j : Nat} {tk : TE} {wk : EW} (hk : DE K W tk wk) : DS K W (tDrop (tBM K "list" rAppend (tDSetd (tVar i) tk (tLst tNil)) (tCons (tVar j) tNil))) (wDlApp i wk j) := by
  refine ⟨fun σ H τ F Dn E S ⟨⟨p0, kvs0, e0⟩, hw⟩ o => ?_⟩
  obtain ⟨s0, f0, u0, hu0, cr0, so0⟩ := own_get S e0
  cases cr0
  refine ⟨.ref p0, s0, p0, rfl, .inl ⟨_, .inl hu0⟩, ?_⟩
  refine hk.run σ H τ F _ _ E.ex S hw (fun y d τ1 F1 H1 t1 r1 ⟨p, kvs, n, m, e1, ed, ej, l1, l2, hq⟩ => ?_) o.xto
  subst ed
  cases r1
  obtain ⟨s1, f1, u1, hu1, cr1, so1⟩ := own_get t1.ok e1
  rw [s0] at s1
  cases s1
  cases cr1
  obtain ⟨so1, so2⟩ := so1
  have hj : j < σ.length := by rw [t1.ok.len]; exact (List.getElem?_eq_some_iff.mp ej).1
  have sj : σ[j]? = some (some (.int m)) := by
    obtain ⟨v, hv, r⟩ := t1.ok.slot j σ[j] _ (List.getElem?_eq_getElem hj) ej
    cases r
    rw [List.getElem?_eq_getElem hj, hv]
  refine ⟨Nat.zero_le _, fun q hq0 => ?_⟩
  have npq : p0 ≠ q := fun z => by rw [z, hq0] at hu1; cases hu1
  have nnew : ∀ x ∈ kvs, x.2.1 ≠ q := fun x hx z => by
    have := (so2 x hx).2.2
    rw [z, hq0] at this
    cases this
  refine ⟨_, .inl n, by rw [upd_ne npq]; exact hu1, rfl, by rw [List.length_map]; exact small1000 (Nat.le_of_lt l1), fun v hv => ?_, fun hn => ?_⟩
  · obtain ⟨pre, x, post, ek, ex, rfl, hpre⟩ := val_split hv
    have hx : x ∈ kvs := by rw [ek]; simp
    obtain ⟨x1, x2, x3⟩ := so2 x hx
    have h3 : (upd H1 q (.lst [])) x.2.1 = some (.lst (x.2.2.map V.int)) := by rw [upd_ne (nnew x hx)]; exact x3
    refine ⟨.inl ⟨rfl, _, .inl (.inl h3)⟩, .int m, sj, x.2.1, _, .int m, rfl, rfl, h3, by rw [List.length_map]; exact small1000 (Nat.le_of_lt (l2 x hx)), ?_⟩
    let kvs2 := pre ++ (x.1, x.2.1, x.2.2 ++ [m]) :: post
    have mm : (kvs2.map fun x => (x.1, V.ref x.2.1)) = kvs.map fun x => (x.1, V.ref x.2.1) := by rw [ek]; simp [kvs2]
    have ma : (kvs2.map fun x => x.2.1) = kvs.map fun x => x.2.1 := by rw [ek]; simp [kvs2]
    have mem2 : ∀ y ∈ kvs2, y = (x.1, x.2.1, x.2.2 ++ [m]) ∨ (y ∈ kvs ∧ y.2.1 ≠ x.2.1) := fun y hy => by
      rw [ek, List.map_append, List.map_cons] at so1
      obtain ⟨_, n2, n3⟩ := List.nodup_append.mp so1
      rcases List.mem_append.mp hy with h | h
      · exact .inr ⟨by rw [ek]; simp [h], n3 _ (List.mem_map.mpr ⟨y, h, rfl⟩) _ (by simp)⟩
      · rcases List.mem_cons.mp h with h | h
        · exact .inl h
        · refine .inr ⟨by rw [ek]; simp [h], fun z => ?_⟩
          exact (List.nodup_cons.mp n2).1 (by rw [← z]; exact List.mem_map.mpr ⟨y, h, rfl⟩)
    refine o.nx σ _ F1 _ (own_mut (k2 := .dl kvs2) t1 e1 (fun a u ha nt nh => ?_) (fun a ha => ?_) (fun tb => tabs_lst h3 (tabs_new hq0 tb)) ⟨f1, _, ?_, .dl, by rw [ma]; exact so1, fun y hy => ?_⟩ fun a ha => ?_) (hq kvs2 (by rw [appD_at (m := m) (post := post) ex hpre, ← ek]))
    · rw [upd_ne (fun z => nh (.inr ⟨x, hx, z⟩)), upd_ne (fun z => by rw [z, hq0] at ha; cases ha)]
      exact ha
    · by_cases z : a = x.2.1
      · subst z; exact (ha _ upd_same nt_lst).elim
      · by_cases z2 : a = q
        · subst z2; exact fr_none hq0
        · exact fun o g => ha o (by rw [upd_ne z, upd_ne z2]; exact g)
    · rw [upd_ne (fun z => x1 z.symm), upd_ne npq, mm]
      exact hu1
    · rcases mem2 y hy with rfl | ⟨h, n1⟩
      · refine ⟨x1, x2, ?_⟩
        show upd _ x.2.1 _ x.2.1 = _
        rw [upd_same, List.map_append]
        rfl
      · obtain ⟨y1, y2, y3⟩ := so2 y h
        exact ⟨y1, y2, by rw [upd_ne n1, upd_ne (nnew y h)]; exact y3⟩
    · rcases dl_foot ha with h | ⟨y, hy, rfl⟩
      · exact .inl (.inl h)
      · rcases mem2 y hy with rfl | ⟨h, _⟩
        · exact .inl (.inr ⟨x, hx, rfl⟩)
        · exact .inl (.inr ⟨y, h, rfl⟩)
  · have hk2 := val_none hn
    have hl : (upd (upd H1 q (.lst [])) p0 (.dK (putK (kvs.map fun x => (x.1, V.ref x.2.1)) (.inl n) (.ref q)))) q = some (.lst []) := by rw [upd_ne (fun z => npq z.symm), upd_same]
    refine ⟨.inl ⟨rfl, [], .inl (.inl hl)⟩, .int m, sj, q, [], .int m, rfl, rfl, hl, by decide, ?_⟩
    have ek : ((kvs ++ [((.inl n : Key), q, [m])]).map fun x => (x.1, V.ref x.2.1)) = putK (kvs.map fun x => (x.1, V.ref x.2.1)) (.inl n) (.ref q) := by rw [putK_none hk2]; simp
    refine o.nx σ _ F1 _ (own_mut (k2 := .dl (kvs ++ [(.inl n, q, [m])])) t1 e1 (fun a u ha nt nh => ?_) (fun a ha => ?_) (fun tb => tabs_lst hl (tabs_dK (xs := kvs.map fun x => (x.1, V.ref x.2.1)) (by rw [upd_ne npq]; exact hu1) (tabs_new hq0 tb))) ⟨f1, _, ?_, .dl, ?_, fun y hy => ?_⟩ fun a ha => ?_) (hq _ (by rw [appD_none hk2]; simp [unA]))
    · have n1 : a ≠ q := fun z => by rw [z, hq0] at ha; cases ha
      rw [upd_ne n1, upd_ne (fun z => nh (.inl z)), upd_ne n1]
      exact ha
    · by_cases z2 : a = q
      · subst z2; exact fr_none hq0
      · by_cases z : a = p0
        · subst z
          exact (ha _ (by rw [upd_ne z2, upd_same]) fun ps z => by cases z).elim
        · exact fun o g => ha o (by rw [upd_ne z2, upd_ne z, upd_ne z2]; exact g)
    · rw [upd_ne npq, upd_same, ek]
    · rw [List.map_append, List.nodup_append]
      refine ⟨so1, by simp, fun a ha b hb => ?_⟩
      obtain ⟨x, hx, rfl⟩ := List.mem_map.mp ha
      have : b = q := by simpa using hb
      rw [this]
      exact nnew x hx
    · rcases List.mem_append.mp hy with h | h
      · obtain ⟨y1, y2, y3⟩ := so2 y h
        exact ⟨y1, y2, by rw [upd_ne (nnew y h), upd_ne y1, upd_ne (nnew y h)]; exact y3⟩
      · rw [List.mem_singleton.mp h]
        exact ⟨fun z => npq z.symm, new_not_data t1.ok hq0, by rw [upd_same]; rfl⟩
    · rcases dl_foot ha with h | ⟨y, hy, rfl⟩
      · exact .inl (.inl h)
      · rcases List.mem_append.mp hy with h | h
        · exact .inl (.inr ⟨y, h, rfl⟩)
        · rw [List.mem_singleton.mp h]
          exact .inr hq0
end
end L3

/-! ## a tuple times 1 -/
namespace L2
open PySem PySem.Spec PyProof.Rows
theorem tuple_mul1 (l : Addr) (items : Array Value) (n : Nat) (dd : Option Addr) (sl : Array (Option Value)) (u : Tok) :
    Meets (Builtin.«tuple.__mul__» ⟨[.ref l, .int 1 u], []⟩) (fun _ R s => s.heap.get? l = some { cls := .type "tuple", dict := dd, data := .seq items n, slots := sl } ∧ R (.ok (.ret (Value.ref l))) s) :=
  .of_wp fun prog w A R s h => by
    obtain ⟨hp, g, d, tk, os⟩ := s
    obtain ⟨hl, h⟩ := h
    have f1 := AutoSeq1.idx_int
    have c1 : (items.isEmpty || (1 : Int) == 1) = true := by simp
    wp_walk using wpAny_loadPart' hl
    exact ⟨_, rfl, h⟩
def rRepT1 (K : PySem.W.Frag) : R2 := fun x y H Q => ∃ l xs, x = .ref l ∧ y = .int 1 ∧ SqT K H l xs ∧ Q (.ref l) H
theorem op_repT1 {X : Cx} : OpR X (binaryOp .Mult) (rRepT1 X.K) := by
  intro pins s σ H x y v u Q I rx ry h
  obtain ⟨l, xs, rfl, rfl, hT, q⟩ := h
  cases rx
  obtain ⟨t, rfl⟩ := ry
  obtain ⟨its, r, ⟨⟨cls, dd, data, sl⟩, ho, hc, n, hd⟩, hs⟩ := I.tuple hT
  simp only at hc hd
  subst hc hd
  refine wpAny_binaryOp_repeat_ref (T := "tuple") (U := "int") (by decide) ⟨_, ho, rfl⟩ (fun s' => typeIs_int s' 1 t) noFill_tuple_mul F.fills_int_mul F.slot_int_rmul repeat_tuple F.slot_int_index.lookup
    (call_meets F.slot_int_rmul (typeIs_int s 1 t) F.entry_int_rmul (F.args_int_rmul_2 _ _) (int_rmul_tuple 1 t l its.toArray n dd sl)
      ⟨ho, rfl, ⟨_, ho, rfl⟩, call_meets F.slot_tuple_mul ⟨_, ho, rfl⟩ F.entry_tuple_mul (F.args_tuple_mul_2 _ _) (tuple_mul1 l its.toArray n dd sl t) ⟨ho, ?_⟩⟩)
  exact ⟨.ref l, H, I, rfl, q⟩
end L2
namespace L3
open PySem PySem.Spec PyProof.Rows L2
variable [TB : TabT]
section
variable {K : PySem.W.Frag} {W : WX}
/-- a tuple that is not empty, from 1 to 1000 times -/
def gRepT1 : D → D → (D → Prop) → Prop := fun x y q => ∃ (ds : List D) (k : Int), x = .tup ds ∧ y = .int k ∧ ds ≠ [] ∧ 1 ≤ k ∧ k ≤ 1000 ∧ ds.length ≤ 1000 ∧ q (.tup (List.replicate k.toNat ds).flatten)
theorem o_repT1 : Op2 K (rOr (rRepT K) (rRepT1 K)) gRepT1 := by
  rintro F H x y d1 d2 q Q s r1 r2 ⟨ds, n, rfl, rfl, hne, h1, h1000, hl, hq⟩ k
  by_cases e : n = 1
  · subst e
    cases r1 with
    | @tup a xs _ h1 r1 =>
      cases r2
      refine .inr ⟨a, xs, rfl, rfl, SqT_mono s h1, ?_⟩
      have e : (List.replicate (1 : Int).toNat ds).flatten = ds := by simp
      rw [e] at hq
      exact k _ (.tup ds) F H (.refl _ _ _) s (.tup h1 r1) hq
  · exact .inl (o_repT F H x y (.tup ds) (.int n) q Q s r1 r2 ⟨ds, n, rfl, rfl, hne, by omega, h1000, hl, hq⟩ k)
end
end L3

/-! ## max and min of a tuple of numbers -/
namespace L2
open PySem PySem.Spec PyProof.Rows
theorem reads_ints {h : Heap} : ∀ {ns : List Int} {its : List Value}, Vals (ns.map V.int) its → ∃ as, PySem.ReadsAll h its (ns.map PyData.int) as
  | [], _, .nil => ⟨_, .nil⟩
  | n :: ns, _, .cons r rs => by
    obtain ⟨t, rfl⟩ := r
    obtain ⟨as, h⟩ := reads_ints rs
    exact ⟨_, .cons (.int n t) h⟩
theorem depth_ints : ∀ ns : List Int, PyData.depthAll (ns.map PyData.int) = 0
  | [] => rfl
  | n :: ns => by
    show max (PyData.depth (.int n)) (PyData.depthAll (ns.map PyData.int)) = 0
    rw [depth_ints ns]
    rfl
theorem alike_ints (ns : List Int) : PySem.W.AlikeAll (ns.map PyData.int) := ⟨fun x hx y hy => by
  obtain ⟨a, _, rfl⟩ := List.mem_map.mp hx
  obtain ⟨b, _, rfl⟩ := List.mem_map.mp hy
  rfl, fun x hx z => by
  obtain ⟨a, _, rfl⟩ := List.mem_map.mp hx
  cases z⟩
def rMaxT (K : PySem.W.Frag) : List V → Hp → VK → Prop := fun vs H Q => ∃ (a : Addr) (n : Int) (ns : List Int), vs = [V.ref a] ∧ SqT K H a ((n :: ns).map V.int) ∧ Q (.int (ns.foldl max n)) H
def rMinT (K : PySem.W.Frag) : List V → Hp → VK → Prop := fun vs H Q => ∃ (a : Addr) (n : Int) (ns : List Int), vs = [V.ref a] ∧ SqT K H a ((n :: ns).map V.int) ∧ Q (.int (ns.foldl min n)) H
theorem reads_int {h : Heap} {v : Value} {m : Int} {bs : List Addr} (r : PySem.Reads h v (.int m) bs) : RelV (.int m) v := by
  cases r with
  | int i t => exact ⟨t, rfl⟩
theorem cr_maxT {X : Cx} (hc : X.calm = true) (hu : X.A.units + 1 < cLine) : CallR X (.builtin "max") (rMaxT X.K) := by
  intro pins s σ H vs us Q I r h
  obtain ⟨a, n, ns, rfl, hs, q⟩ := h
  obtain ⟨its, rv, ht, _⟩ := I.tuple hs
  rw [Vals.ref1 r]
  obtain ⟨as, ra⟩ := reads_ints (h := s.heap) rv
  refine PySem.W.max_tuple_data (x := .int n) (xs := ns.map PyData.int) (I.ok.hd hc) (vs := its.toArray) ht (by rw [List.toList_toArray]; exact ra) (alike_ints (n :: ns)) (by
    have := depth_ints (n :: ns)
    rw [List.map_cons] at this
    rw [this]
    exact hu) fun i v h' tk bs hv hr hk => ?_
  rw [PySem.W.maxD_ints] at hr
  exact ⟨.int _, H, I.kept hk, reads_int hr, q⟩
theorem cr_minT {X : Cx} (hc : X.calm = true) (hu : X.A.units + 1 < cLine) : CallR X (.builtin "min") (rMinT X.K) := by
  intro pins s σ H vs us Q I r h
  obtain ⟨a, n, ns, rfl, hs, q⟩ := h
  obtain ⟨its, rv, ht, _⟩ := I.tuple hs
  rw [Vals.ref1 r]
  obtain ⟨as, ra⟩ := reads_ints (h := s.heap) rv
  refine PySem.W.min_tuple_data (x := .int n) (xs := ns.map PyData.int) (I.ok.hd hc) (vs := its.toArray) ht (by rw [List.toList_toArray]; exact ra) (alike_ints (n :: ns)) (by
    have := depth_ints (n :: ns)
    rw [List.map_cons] at this
    rw [this]
    exact hu) fun i v h' tk bs hv hr hk => ?_
  rw [PySem.W.minD_ints] at hr
  exact ⟨.int _, H, I.kept hk, reads_int hr, q⟩
end L2
namespace L3
open PySem PySem.Spec PyProof.Rows L2
variable [TB : TabT]
variable {K : PySem.W.Frag} {W : WX}
def gMaxT : List D → (D → Prop) → Prop := fun ds q => ∃ (n : Int) (ns : List Int), ds = [.tup ((n :: ns).map D.int)] ∧ q (.int (ns.foldl max n))
def gMinT : List D → (D → Prop) → Prop := fun ds q => ∃ (n : Int) (ns : List Int), ds = [.tup ((n :: ns).map D.int)] ∧ q (.int (ns.foldl min n))
theorem o_maxT : OpN K (rMaxT K) gMaxT := by
  rintro F H xs ds q Q s r ⟨n, ns, rfl, hq⟩ k
  obtain ⟨v, rfl, r1⟩ := r.one
  cases r1 with
  | @tup a xs _ h1 r1 =>
    have e := r1.intsV
    subst e
    exact ⟨a, n, ns, rfl, SqT_mono s h1, k _ _ F H (.refl _ _ _) s (.int _) hq⟩
theorem o_minT : OpN K (rMinT K) gMinT := by
  rintro F H xs ds q Q s r ⟨n, ns, rfl, hq⟩ k
  obtain ⟨v, rfl, r1⟩ := r.one
  cases r1 with
  | @tup a xs _ h1 r1 =>
    have e := r1.intsV
    subst e
    exact ⟨a, n, ns, rfl, SqT_mono s h1, k _ _ F H (.refl _ _ _) s (.int _) hq⟩
end L3

/-! ## long lists -/
namespace L3
open PySem PySem.Spec PyProof.Rows L2
variable [TB : TabT]
section
variable {K : PySem.W.Frag} {W : WX}
theorem big_size {n : Nat} (h : n < 1000000) : n < sizeLine := by
  have e : sizeLine = 16777216 := sizeLine_eq
  omega
def wAppendB (i : Nat) (wa : AW) : SW := fun E τ => (∃ p es, τ[i]? = some (.own p (.lst es))) ∧ wa τ (fun ds τ' => ∃ p es d, ds = [d] ∧ τ'[i]? = some (.own p (.lst es)) ∧ es.length < 1000000 ∧ E.nx (τ'.set i (.own p (.lst (es ++ [d]))))) E.ex
theorem ds_appendB {i : Nat} {t : TA} {w : AW} (h : DA K W t w) : DS K W (tDrop (tBM K "list" rAppend (tVar i) t)) (wAppendB i w) := by
  refine ⟨fun σ H τ F Dn E S ⟨⟨p, es, e0⟩, hw⟩ o => ?_⟩
  obtain ⟨s0, _, vs0, h0, _⟩ := own_lst S e0
  refine ⟨.ref p, s0, .inl ⟨rfl, vs0, .inl (.inl h0)⟩, ?_⟩
  refine h.run σ H τ F _ _ E.ex S hw (fun vs ds τ' F' H' t' r ⟨p', es', d, ed, e1, hl, hq⟩ => ?_) o.xto
  subst ed
  obtain ⟨v, rfl, r1⟩ := r.one
  obtain ⟨s1, _, vs1, h1, r2⟩ := own_lst t'.ok e1
  rw [s0] at s1
  cases s1
  refine ⟨p, vs1, v, rfl, rfl, h1, by rw [r2.length]; exact big_size hl, ?_⟩
  exact o.nx σ _ F' _ (to_change t' e1 (.lst (r2.append (.cons r1 .nil)))) hq
end
end L3

/-! ## long lists made by two loops -/
namespace L3
open PySem PySem.Spec PyProof.Rows L2
variable [TB : TabT]
section
variable {K : PySem.W.Frag} {W : WX}
theorem lc2B_turns {J : It} {g g1 : TG} {tt tt1 : TT} {te : TE} {wi1 : TI} {vs ws vs1 ws1 : List Nat} {wI1 : IW} {wg wg1 : GW} {wt wt1 : TW} {we : EW} {σ : L2.St} {F1 H1 : Hp} {τ1 : List Cell} {ds : List D} {Qd : Hp → Prop} {Da : Addr} {inv : Nat → List D → List Cell → Prop}
    (hg : DG K ws g wg) (ht : DT K W0 tt wt) (hi1 : DI K W0 wi1 wI1) (hg1 : DG K ws1 g1 wg1) (ht1 : DT K W0 tt1 wt1) (he : DE K W0 te we) (hs : ∀ j ∈ ws, j ∈ vs) (hs1 : ∀ j ∈ ws1, j ∈ vs1) (hv : ∀ j ∈ vs1, j ∈ vs) (S : SOk K F1 H1 σ τ1) (it : ItOk K F1 J ds) (hD : H1 Da = none) (h0 : inv 0 [] (wipeD τ1 vs))
    (hst : ∀ i d acc τ2, ds[i]? = some d → inv i acc τ2 → wg d τ2 fun τ3 => wt τ3 (fun b τ4 => (b = true → wI1 τ4 (fun es τ5 => ∃ inv1 : Nat → List D → List Cell → Prop, inv1 0 acc (wipeD τ5 vs1) ∧
      (∀ j d acc1 τ6, es[j]? = some d → inv1 j acc1 τ6 → wg1 d τ6 fun τ7 => wt1 τ7 (fun b τ8 => (b = true → acc1.length ≤ 900000 ∧ we τ8 (fun y τ9 => inv1 (j + 1) (acc1 ++ [y]) (wipeD τ9 vs1)) noX) ∧ (b = false → inv1 (j + 1) acc1 (wipeD τ8 vs1))) noX) ∧
      ∀ acc1 τ6, inv1 es.length acc1 (wipeD τ6 vs1) → inv (i + 1) acc1 (wipeD (wipeD τ6 vs1) vs)) noX) ∧ (b = false → inv (i + 1) acc (wipeD τ4 vs))) noX)
    (hd : ∀ accV acc F2 H2 τ2, To K F1 H1 (wipe σ vs) τ1 F2 H2 (wipeD τ2 vs) → F2 Da = none → ¬ IsOwn (wipeD τ2 vs) Da → H2 Da = some (.lst accV) → Reps K F2 accV acc → inv ds.length acc (wipeD τ2 vs) → Qd H2) :
    ∃ W : Nat → Nat → Hp → Prop, (∃ m, W 0 m (upd H1 Da (.lst []))) ∧ ∀ i m H, W i m H → (J.stop i H ∧ Qd H) ∨ (J.go i H ∧ ∃ Nx : Hp → Prop, (∀ H', Nx H' → ∃ m', m' < m ∧ W (i + 1) m' H') ∧ ∀ x H', J.yld i H x H' → g x (wipe σ vs) H' fun σ2 H2 => wipe σ2 vs = wipe σ vs ∧ tt σ2 H2 fun b H3 =>
    if b = true then wi1 σ2 H3 fun J1 H4 => ∃ W1 : Nat → Nat → Hp → Prop, (∃ m, W1 0 m H4) ∧ ∀ j k H, W1 j k H →
      (J1.stop j H ∧ Nx H) ∨ (J1.go j H ∧ ∃ Nx1 : Hp → Prop, (∀ H', Nx1 H' → ∃ k', k' < k ∧ W1 (j + 1) k' H') ∧ ∀ x H', J1.yld j H x H' → g1 x (wipe σ2 vs1) H' fun σ3 H5 => wipe σ3 vs1 = wipe σ2 vs1 ∧ tt1 σ3 H5 fun b H6 =>
        if b = true then te σ3 H6 fun y H7 => ∃ acc, H7 Da = some (.lst acc) ∧ acc.length < sizeLine ∧ Nx1 (upd H7 Da (.lst (acc ++ [y]))) else Nx1 H6)
    else Nx H3) := by
  let Inv (i : Nat) (H : Hp) : Prop := ∃ accV acc F2 τ2, To K F1 H1 (wipe σ vs) τ1 F2 H (wipeD τ2 vs) ∧ F2 Da = none ∧ ¬ IsOwn (wipeD τ2 vs) Da ∧ H Da = some (.lst accV) ∧ Reps K F2 accV acc ∧ inv i acc (wipeD τ2 vs)
  have S1 : SOk K F1 H1 (wipe σ vs) (wipeD τ1 vs) := S.wiped (wipe_length σ vs) fun j hj => wipe_ne hj
  have F1D : F1 Da = none := by
    cases q : F1 Da with
    | none => rfl
    | some u => rw [S.sub _ _ q] at hD; cases hD
  have no1 : ¬ IsOwn τ1 Da := fun z => by
    obtain ⟨_, us, e2, _⟩ := S.own.has z
    rw [hD] at e2; cases e2
  have start : Inv 0 (upd H1 Da (.lst [])) := by
    refine ⟨[], [], F1, τ1, To.touch ⟨.refl _ _ _, fun p h => .inl (isOwn_wipe h), S1⟩ (fr_none hD) F1D (fun z => no1 (isOwn_wipe z)) (tabs_new hD), F1D, fun z => no1 (isOwn_wipe z), upd_same, .nil, h0⟩
  refine ⟨fun i m H => m = ds.length - i ∧ i ≤ ds.length ∧ Inv i H, ⟨_, rfl, Nat.zero_le _, start⟩, ?_⟩
  rintro i m H ⟨rfl, hi, accV, acc, F2, τ2, T, fD, nD, hH, ra, hinv⟩
  have s12 : Same F1 F2 := T.ext.f
  by_cases hlt : i < ds.length
  · refine .inr ⟨it.go i F2 H s12 T.ok.sub hlt, Inv (i + 1), fun H' p' => ⟨ds.length - (i + 1), by omega, rfl, hlt, p'⟩, fun x H' y => ?_⟩
    obtain ⟨d, F3, ed, x3, s3, r3⟩ := it.yld i F2 H x H' s12 T.ok.sub hlt y
    have T3 : To K F2 H (wipe σ vs) (wipeD τ2 vs) F3 H' (wipeD τ2 vs) := .small T.ok x3 s3
    refine hg.run _ H' _ F3 x d _ _ T3.ok r3 (hst i d acc _ ed hinv) fun σ4 τ4 S4 o4 a4 l4 h4 => ?_
    have ew : wipe σ4 vs = wipe σ vs := wipe_eq hs (by rw [l4]) (fun j hj => a4 j hj)
    refine ⟨ew, ?_⟩
    have T4 : To K F2 H σ4 (wipeD τ2 vs) F3 H' τ4 := T3.at S4 o4
    refine ht.run σ4 H' τ4 F3 _ _ noX S4 h4 (fun b τ5 F5 H5 t5 ⟨h5, h6⟩ => ?_) xto0
    have T5 := T4.trans t5
    have ej : ∀ j, j ∉ vs → (wipe σ vs)[j]? = σ4[j]? := fun j hj => by rw [← ew]; exact wipe_ne hj
    have n5 := T5.not_own nD hH
    have f5 := T5.not_data nD hH fD
    have k5 := T5.ext.keep Da _ hH nD nt_lst
    cases b with
    | false =>
      refine iteF ?_
      refine ⟨accV, acc, F5, τ5, (T.trans T5).at (t5.ok.wiped (by rw [← ew, wipe_length]) ej) fun p h => isOwn_wipe h, f5, fun z => n5 (isOwn_wipe z), k5, ra.mono T5.ext.f, h6 rfl⟩
    | true =>
      refine iteT ?_
      refine hi1.run σ4 H5 τ5 F5 _ _ noX t5.ok (h5 rfl) (fun J1 es τ6 F6 H6 t6 it1 ⟨inv1, h10, hst1, hd1⟩ => ?_) xto0
      have T6 := T5.trans t6
      have n6a := T6.not_own nD hH
      let Inv1 (j : Nat) (H : Hp) : Prop := ∃ accV acc F7 τ7, To K F1 H1 (wipe σ4 vs1) τ1 F7 H (wipeD τ7 vs1) ∧ Same F6 F7 ∧ F7 Da = none ∧ ¬ IsOwn (wipeD τ7 vs1) Da ∧ H Da = some (.lst accV) ∧ Reps K F7 accV acc ∧ inv1 j acc (wipeD τ7 vs1)
      have start1 : Inv1 0 H6 := ⟨accV, acc, F6, τ6, (T.trans T6).at (t6.ok.wiped (wipe_length _ _) fun j hj => wipe_ne hj) fun p h => isOwn_wipe h, Same.refl _, T6.not_data nD hH fD, fun z => n6a (isOwn_wipe z), T6.ext.keep Da _ hH nD nt_lst, ra.mono T6.ext.f, h10⟩
      refine ⟨fun j k H => k = es.length - j ∧ j ≤ es.length ∧ Inv1 j H, ⟨_, rfl, Nat.zero_le _, start1⟩, ?_⟩
      rintro j k H ⟨rfl, hj, accV, acc, F7, τ7, T7, s67, fD7, nD7, hH7, ra7, hinv1⟩
      by_cases hlt1 : j < es.length
      · refine .inr ⟨it1.go j F7 H s67 T7.ok.sub hlt1, Inv1 (j + 1), fun H' p' => ⟨es.length - (j + 1), by omega, rfl, hlt1, p'⟩, fun x H' y => ?_⟩
        obtain ⟨d, F8, ed, x8, s8, r8⟩ := it1.yld j F7 H x H' s67 T7.ok.sub hlt1 y
        have T8 : To K F7 H (wipe σ4 vs1) (wipeD τ7 vs1) F8 H' (wipeD τ7 vs1) := .small T7.ok x8 s8
        refine hg1.run _ H' _ F8 x d _ _ T8.ok r8 (hst1 j d acc _ ed hinv1) fun σ9 τ9 S9 o9 a9 l9 h9 => ?_
        have ew1 : wipe σ9 vs1 = wipe σ4 vs1 := wipe_eq hs1 (by rw [l9]) (fun j hj => a9 j hj)
        refine ⟨ew1, ?_⟩
        have T9 : To K F7 H σ9 (wipeD τ7 vs1) F8 H' τ9 := T8.at S9 o9
        refine ht1.run σ9 H' τ9 F8 _ _ noX S9 h9 (fun b τ10 F10 H10 t10 ⟨h11, h12⟩ => ?_) xto0
        have T10 := T9.trans t10
        have ej1 : ∀ j, j ∉ vs1 → (wipe σ4 vs1)[j]? = σ9[j]? := fun j hj => by rw [← ew1]; exact wipe_ne hj
        have back : ∀ {F' H' : Hp} {τ' : List Cell}, To K F7 H σ9 (wipeD τ7 vs1) F' H' τ' → To K F1 H1 (wipe σ4 vs1) τ1 F' H' (wipeD τ' vs1) := fun t =>
          (T7.trans t).at (t.ok.wiped (by rw [← ew1, wipe_length]) ej1) fun p h => isOwn_wipe h
        cases b with
        | false =>
          refine iteF ?_
          have n5 := T10.not_own nD7 hH7
          exact ⟨accV, acc, F10, τ10, back T10, s67.trans T10.ext.f, T10.not_data nD7 hH7 fD7, fun z => n5 (isOwn_wipe z), T10.ext.keep Da _ hH7 nD7 nt_lst, ra7.mono T10.ext.f, h12 rfl⟩
        | true =>
          refine iteT ?_
          obtain ⟨la, h11⟩ := h11 rfl
          refine he.run σ9 H10 τ10 F10 _ _ noX t10.ok h11 (fun yv yd τ11 F11 H11 t11 r11 h13 => ?_) xto0
          have T11 := T10.trans t11
          have n6 := T11.not_own nD7 hH7
          refine ⟨accV, T11.ext.keep Da _ hH7 nD7 nt_lst, by rw [ra7.length]; exact big_size (by omega), ?_⟩
          have nw : ¬ IsOwn (wipeD τ11 vs1) Da := fun z => n6 (isOwn_wipe z)
          exact ⟨accV ++ [yv], acc ++ [yd], F11, τ11, (back T11).touch (fr_none hD) (T11.not_data nD7 hH7 fD7) nw (tabs_lst (T11.ext.keep Da _ hH7 nD7 nt_lst)), s67.trans T11.ext.f, T11.not_data nD7 hH7 fD7, nw, upd_same, (ra7.mono T11.ext.f).append (.cons r11 .nil), h13⟩
      · have e : j = es.length := by omega
        subst e
        refine .inl ⟨it1.stop F7 H s67 T7.ok.sub, accV, acc, F7, wipeD τ7 vs1, T7.at (T7.ok.wiped (by rw [← ew, wipe_length, wipe_length]) fun j hj => ?_) fun p h => isOwn_wipe h, fD7, fun z => nD7 (isOwn_wipe z), hH7, ra7, hd1 acc τ7 hinv1⟩
        rw [ej j hj]
        exact (wipe_ne fun z => hj (hv j z)).symm
  · have e : i = ds.length := by omega
    subst e
    exact .inl ⟨it.stop F2 H s12 T.ok.sub, hd accV acc F2 H τ2 T fD nD hH ra hinv⟩
/-- [.. for .. in .. for .. in ..] -/
def wLc2B (wI : IW) (wg : GW) (wt : TW) (wI1 : IW) (wg1 : GW) (wt1 : TW) (we : EW) (vs vs1 : List Nat) : EW := fun τ q e => wI τ (fun ds τ1 => ∃ inv : Nat → List D → List Cell → Prop, inv 0 [] (wipeD τ1 vs) ∧
  (∀ i d acc τ2, ds[i]? = some d → inv i acc τ2 → wg d τ2 fun τ3 => wt τ3 (fun b τ4 => (b = true → wI1 τ4 (fun es τ5 => ∃ inv1 : Nat → List D → List Cell → Prop, inv1 0 acc (wipeD τ5 vs1) ∧
      (∀ j d acc1 τ6, es[j]? = some d → inv1 j acc1 τ6 → wg1 d τ6 fun τ7 => wt1 τ7 (fun b τ8 => (b = true → acc1.length ≤ 900000 ∧ we τ8 (fun y τ9 => inv1 (j + 1) (acc1 ++ [y]) (wipeD τ9 vs1)) noX) ∧ (b = false → inv1 (j + 1) acc1 (wipeD τ8 vs1))) noX) ∧
      ∀ acc1 τ6, inv1 es.length acc1 (wipeD τ6 vs1) → inv (i + 1) acc1 (wipeD (wipeD τ6 vs1) vs)) noX) ∧ (b = false → inv (i + 1) acc (wipeD τ4 vs))) noX) ∧
  ∀ acc τ2, inv ds.length acc (wipeD τ2 vs) → q (.lst acc) (wipeD τ2 vs)) e
theorem de_lc2B {wi wi1 : TI} {g g1 : TG} {tt tt1 : TT} {te : TE} {vs ws vs1 ws1 : List Nat} {wI wI1 : IW} {wg wg1 : GW} {wt wt1 : TW} {we : EW} (hi : DI K W wi wI) (hg : DG K ws g wg) (ht : DT K W0 tt wt) (hi1 : DI K W0 wi1 wI1) (hg1 : DG K ws1 g1 wg1) (ht1 : DT K W0 tt1 wt1) (he : DE K W0 te we) (hs : ∀ j ∈ ws, j ∈ vs) (hs1 : ∀ j ∈ ws1, j ∈ vs1) (hv : ∀ j ∈ vs1, j ∈ vs) :
    DE K W (tLc2 wi g tt wi1 g1 tt1 te vs vs1) (wLc2B wI wg wt wI1 wg1 wt1 we vs vs1) := by
  refine ⟨fun σ H τ F Q q e S hw k x => hi.run σ H τ F _ _ e S hw (fun J ds τ1 F1 H1 t1 it ⟨inv, h0, hst, hd⟩ Da hD => ?_) x⟩
  refine lc2B_turns hg ht hi1 hg1 ht1 he hs hs1 hv t1.ok it hD h0 hst fun accV acc F2 H2 τ2 T fD nD hH ra hinv => ?_
  refine k (.ref Da) (.lst acc) (wipeD τ2 vs) (upd F2 Da (.lst accV)) H2 ?_ (.lst upd_same (ra.mono (same_upd fD))) (hd acc τ2 hinv)
  have T2 := T.freeze (fr_none hD) fD hH nD
  refine t1.trans (To.at (τ1 := wipeD τ2 vs) T2 ?_ fun p h => h)
  rw [← wipeD_idem]
  exact T2.ok.wiped (by rw [wipe_length]) fun j hj => (wipe_ne hj).symm
end
end L3

/-! ## extend, and sorted(..) handed back as a new list -/
namespace L3
open PySem PySem.Spec PyProof.Rows L2
variable [TB : TabT]
section
variable {K : PySem.W.Frag} {W : WX}
def wExtend (i : Nat) (wa : AW) : SW := fun E τ => (∃ p es, τ[i]? = some (.own p (.lst es))) ∧ wa τ (fun ds τ' => ∃ p es zs, ds = [.lst zs] ∧ τ'[i]? = some (.own p (.lst es)) ∧ es.length + zs.length < 1000000 ∧ E.nx (τ'.set i (.own p (.lst (es ++ zs))))) E.ex
theorem ds_extend {i : Nat} {t : TA} {w : AW} (h : DA K W t w) : DS K W (tDrop (tBM K "list" rExtend (tVar i) t)) (wExtend i w) := by
  refine ⟨fun σ H τ F Dn E S ⟨⟨p, es, e0⟩, hw⟩ o => ?_⟩
  obtain ⟨s0, _, vs0, h0, _⟩ := own_lst S e0
  refine ⟨.ref p, s0, .inl ⟨rfl, vs0, .inl (.inl h0)⟩, ?_⟩
  refine h.run σ H τ F _ _ E.ex S hw (fun vs ds τ' F' H' t' r ⟨p', es', zs, ed, e1, hl, hq⟩ => ?_) o.xto
  subst ed
  obtain ⟨v, rfl, r1⟩ := r.one
  obtain ⟨s1, _, vs1, h1, r2⟩ := own_lst t'.ok e1
  rw [s0] at s1
  cases s1
  cases r1 with
  | @lst b us _ hb rb =>
    refine ⟨p, b, vs1, us, rfl, rfl, h1, t'.ok.sub _ _ hb, by rw [r2.length, rb.length]; exact Nat.le_of_lt (big_size hl), ?_⟩
    exact o.nx σ _ F' _ (to_change t' e1 (.lst (r2.append rb))) hq
def wRetSortFr (we : EW) : SW := fun E τ => we τ (fun d τ' => ∃ es, d = .lst es ∧ (∀ e ∈ es, (toPy e).isSome) ∧ PySem.W.AllAlike (es.map pyD) ∧ PySem.W.Sortable (es.map pyD) ∧ (∀ e ∈ es, (pyD e).depth ≤ 60) ∧ E.rf (.lst (es.mergeSort leD)) τ') E.ex
theorem ds_retSortFr {t : TE} {w : EW} (h : DE K W t w) : DS K W (tRet (tCB (rSortG K) (tCons t tNil))) (wRetSortFr w) := by
  refine ⟨fun σ H τ F Dn E S hw o => h.run σ H τ F _ _ E.ex S hw (fun v d τ' F' H' t' r ⟨es, ed, hsome, hal, hk, hdep, hq⟩ => ?_) o.xto⟩
  subst ed
  have s := t'.ok.sub
  cases r with
  | @lst a vs _ hs rs =>
    obtain ⟨bs, rfl, rfl, hb⟩ := reps_pairs rs
    let f : V × D → V × PyData := fun b => (b.1, pyD b.2)
    have m1 : (bs.map f).map (·.1) = bs.map (·.1) := by rw [List.map_map]; rfl
    have m2 : (bs.map f).map (·.2) = (bs.map (·.2)).map pyD := by rw [List.map_map, List.map_map]; rfl
    refine ⟨a, bs.map f, rfl, by rw [m1]; exact s.seq (.inl (.inl hs)), fun b hm => ?_, by rw [m2]; exact hal, by rw [m2]; exact hk, fun b hm => ?_, fun p hp => ?_⟩
    · obtain ⟨c, hc, rfl⟩ := List.mem_map.mp hm
      have h1 := hsome c.2 (List.mem_map.mpr ⟨c, hc, rfl⟩)
      obtain ⟨pd, e⟩ := Option.isSome_iff_exists.mp h1
      have e2 : pyD c.2 = pd := by unfold pyD; rw [e]; rfl
      show Dp K H' c.1 (pyD c.2)
      rw [e2]
      exact Dp_mono s (dp_of (hb c hc) e)
    · obtain ⟨c, hc, rfl⟩ := List.mem_map.mp hm
      exact hdep c.2 (List.mem_map.mpr ⟨c, hc, rfl⟩)
    · have e1 : (bs.map f).mergeSort (PySem.W.dataLe false fun b => b.2) = (bs.mergeSort fun a b => leD a.2 b.2).map f := by
        symm
        apply List.map_mergeSort
        intro a _ b _
        rfl
      have e2 : (bs.mergeSort fun a b => leD a.2 b.2).map (·.2) = (bs.map (·.2)).mergeSort leD := by
        apply List.map_mergeSort
        intro a _ b _
        rfl
      rw [e1, List.map_map]
      have e3 : ((fun b : V × PyData => b.1) ∘ f) = fun b : V × D => b.1 := rfl
      rw [e3]
      have hp0 := t'.back (fr_none hp)
      have nF := new_not_data t'.ok hp
      have nO := new_not_own t'.ok hp
      have rr : Reps K F' ((bs.mergeSort fun a b => leD a.2 b.2).map (·.1)) ((bs.map (·.2)).mergeSort leD) := by
        rw [← e2]
        exact pairs_reps fun b hm => hb b (List.mem_mergeSort.mp hm)
      exact o.rf p (.lst ((bs.map (·.2)).mergeSort leD)) τ' F' _ (t'.touch hp0 nF nO (tabs_new hp)).ret (.flat trivial nF upd_same (.lst rr)) (fun a f => by rw [flat_has (k := .lst ((bs.map (·.2)).mergeSort leD)) trivial f]; exact ⟨hp0, nO⟩) hq
/-- return x, x an own list that was made here -/
def wRetOwnG (i : Nat) : SW := fun E τ => ∃ p es, τ[i]? = some (.own p (.lst es)) ∧ E.rg (.lst es) (τ.set i .any)
theorem ds_retOwnG {i : Nat} : DS K W (tRet (tVar i)) (wRetOwnG i) := by
  refine ⟨fun σ H τ F Dn E S ⟨p, es, e0, hq⟩ o => ?_⟩
  obtain ⟨s0, f0, vs0, h0, r0⟩ := own_lst S e0
  refine ⟨.ref p, s0, ?_⟩
  refine o.rg p (.lst es) (τ.set i .any) F H ⟨Ext.refl _ _ _, fun q h => .inl (isOwn_set (c := .any) (fun a z => z) h), S.sub, fun j c e => ?_, S.inj.set fun a z => z.elim⟩ (S.own i _ e0) (fun a f => ⟨.inr ⟨i, _, e0, f⟩, fun ⟨j, c, e, g⟩ => ?_⟩) hq
  · rcases set_get e with ⟨_, rfl, _⟩ | ⟨_, e⟩
    · exact trivial
    · exact S.own j c e
  · rcases set_get e with ⟨_, rfl, _⟩ | ⟨n, e⟩
    · exact g
    · exact n (S.inj j i c _ a e e0 g f)
/-- not in a list -/
def gNotInL : D → D → (D → Prop) → Prop := fun x y q => ∃ d ds, toPy x = some d ∧ toPy y = some (.list ds) ∧ SeqAt.shaped d = true ∧ SeqAt.shaped (.list ds) = true ∧ q (.bl (!ds.any fun z => PyData.eqv z d))
theorem o_notInL : Op2 K (rNotInD K) gNotInL := by
  rintro F H x y d1 d2 q Q s r1 r2 ⟨v, ds, e1, e2, h1, h2, hq⟩ k
  exact ⟨v, ds, Dp_mono s (dp_of r1 e1), Dp_mono s (dp_of r2 e2), h1, h2, k _ _ F H (.refl _ _ _) s (.bl _) hq⟩
/-- x *= e -/
def ipMulA : TIp := fun x y H Q => ∃ i j, x = .int i ∧ y = .int j ∧ CMulA i j ∧ Q (.int (i * j)) H
theorem ip_mul {X : Cx} : PIp X .Mult ipMulA := by
  intro pins s σ H x y v u Q I r1 r2 h
  obtain ⟨i, j, e1, e2, c, q⟩ := h
  subst e1; subst e2
  obtain ⟨t, rfl⟩ := r1
  obtain ⟨t', rfl⟩ := r2
  exact imul_int ⟨.int _, H, I.tok _, ⟨_, rfl⟩, q⟩ (c.elim (fun z => z.ok) fun z => z.ok)
def wAugVC (i : Nat) (we : EW) : SW := fun E τ => ∃ a, τ[i]? = some (.dat (.int a)) ∧ we τ (fun d τ' => ∃ b, d = .int b ∧ CMulA a b ∧ E.nx (τ'.set i (.dat (.int (a * b))))) E.ex
theorem ds_augVC {i : Nat} {t : TE} {w : EW} (h : DE K W t w) : DS K W (tAug i t ipMulA) (wAugVC i w) := by
  refine ⟨fun σ H τ F Dn E S ⟨a, e0, hw⟩ o => ?_⟩
  have hi : i < σ.length := by rw [S.len]; exact (List.getElem?_eq_some_iff.mp e0).1
  obtain ⟨v, e1, r⟩ := S.slot i σ[i] _ (List.getElem?_eq_getElem hi) e0
  refine ⟨v, by rw [List.getElem?_eq_getElem hi, e1], ?_⟩
  refine h.run σ H τ F _ _ E.ex S hw (fun y d τ1 F1 H1 t1 r1 ⟨b, ed, hc, hq⟩ => ?_) o.xto
  subst ed
  refine ⟨a, b, r.int_of, r1.int_of, hc, ?_⟩
  exact o.nx _ _ F1 H1 (t1.at (t1.ok.set (.int _)) (fun p h => isOwn_set (c := .dat _) (fun a z => z) h)) hq
end
end L3

/-! ## one way or the other: a name that holds an own list at times, data at others -/
namespace L3
open PySem PySem.Spec PyProof.Rows L2
variable [TB : TabT]
section
variable {K : PySem.W.Frag} {W : WX} {X : Cx}
def tSor (t1 t2 : TS) : TS := fun D σ H => t1 D σ H ∨ t2 D σ H
theorem ps_or {st : Stmt} {t1 t2 : TS} (h1 : PS X st t1) (h2 : PS X st t2) : PS X st (tSor t1 t2) := ⟨fun pins s σ H D I h => h.elim (h1.run pins s σ H D I) (h2.run pins s σ H D I)⟩
def wSor (w1 w2 : SW) : SW := fun E τ => w1 E τ ∨ w2 E τ
theorem ds_or {t1 t2 : TS} {w1 w2 : SW} (h1 : DS K W t1 w1) (h2 : DS K W t2 w2) : DS K W (tSor t1 t2) (wSor w1 w2) := ⟨fun σ H τ F Dn E S hw o => hw.elim (fun h => .inl (h1.run σ H τ F Dn E S h o)) fun h => .inr (h2.run σ H τ F Dn E S h o)⟩
def tXor (t1 t2 : TE) : TE := fun σ H Q => t1 σ H Q ∨ t2 σ H Q
theorem pe_xor {e : Expr} {t1 t2 : TE} (h1 : PE X e t1) (h2 : PE X e t2) : PE X e (tXor t1 t2) := ⟨fun pins s σ H Q I h => h.elim (h1.run pins s σ H Q I) (h2.run pins s σ H Q I)⟩
def wXor (w1 w2 : EW) : EW := fun τ q e => w1 τ q e ∨ w2 τ q e
theorem de_xor {t1 t2 : TE} {w1 w2 : EW} (h1 : DE K W t1 w1) (h2 : DE K W t2 w2) : DE K W (tXor t1 t2) (wXor w1 w2) := ⟨fun σ H τ F Q q e S hw k x => hw.elim (fun h => .inl (h1.run σ H τ F Q q e S h k x)) fun h => .inr (h2.run σ H τ F Q q e S h k x)⟩
def tTor (t1 t2 : TT) : TT := fun σ H Q => t1 σ H Q ∨ t2 σ H Q
theorem pt_xor {e : Expr} {t1 t2 : TT} (h1 : PT X e t1) (h2 : PT X e t2) : PT X e (tTor t1 t2) := ⟨fun pins s σ H Q I h => h.elim (h1.run pins s σ H Q I) (h2.run pins s σ H Q I)⟩
def wTor (w1 w2 : TW) : TW := fun τ q e => w1 τ q e ∨ w2 τ q e
theorem dt_xor {t1 t2 : TT} {w1 w2 : TW} (h1 : DT K W t1 w1) (h2 : DT K W t2 w2) : DT K W (tTor t1 t2) (wTor w1 w2) := ⟨fun σ H τ F Q q e S hw k x => hw.elim (fun h => .inl (h1.run σ H τ F Q q e S h k x)) fun h => .inr (h2.run σ H τ F Q q e S h k x)⟩
/-- an own list as the right side of an operation that tells a bool -/
def wPeekR (g : D → D → (D → Prop) → Prop) (i : Nat) (we : EW) : EW := fun τ q e => we τ (fun d τ1 => ∃ p es, τ1[i]? = some (.own p (.lst es)) ∧ g d (.lst es) fun x => ∃ b, x = .bl b ∧ q (.bl b) τ1) e
theorem de_peekR {i : Nat} {r : R2} {g : D → D → (D → Prop) → Prop} {t : TE} {w : EW} (o : Op2 K r g) (h : DE K W t w) : DE K W (tOp r t (tVar i)) (wPeekR g i w) := by
  refine ⟨fun σ H τ F Q q e S hw k x => ?_⟩
  refine h.run σ H τ F _ _ e S hw (fun y d τ1 F1 H1 t1 r1 ⟨p, es, e1, hg⟩ => ?_) x
  obtain ⟨s1, f1, vs1, h1, r2⟩ := own_lst t1.ok e1
  refine ⟨.ref p, s1, ?_⟩
  have sF : Same F1 (upd F1 p (.lst vs1)) := same_upd f1
  have sH : Same (upd F1 p (.lst vs1)) H1 := fun a u e => by
    by_cases q : a = p
    · subst q
      rw [upd_same] at e
      cases e
      exact h1
    · rw [upd_ne q] at e
      exact t1.ok.sub a u e
  refine o (upd F1 p (.lst vs1)) H1 y (.ref p) d (.lst es) _ Q sH (r1.mono sF) (.lst upd_same (r2.mono sF)) hg fun v dd F' H' x1 s2 rv ⟨b, eb, hq⟩ => ?_
  subst eb
  cases rv
  exact k (.bl b) (.bl b) τ1 F1 H' (t1.trans (.small t1.ok (ext_peek x1) fun a u e => s2 a u (x1.f a u (sF a u e)))) (.bl b) hq
end
end L3

set_option Elab.async false
set_option linter.all false
set_option maxRecDepth 100000
set_option maxHeartbeats 4000000
namespace K55
open PySem PySem.Spec PyProof.Rows L2 L3
def inClass (st : Stmt) (j : Nat) : Stmt := match st with | .ClassDef (body := b) .. => b.getD j (.Pass ⟨0, 0, 0, 0⟩) | _ => .Pass ⟨0, 0, 0, 0⟩
def topS (i : Nat) : Stmt := PySem.Challenge.pw_twotides_k55_whole_stars_rows_and_rings.main.body.getD i (.Pass ⟨0, 0, 0, 0⟩)
section
variable [TB : TabT] {K : PySem.W.Frag}
/-- a pair of integers, the second above 0, neither great -/
def PrB (k : Nat) (d : D) : Prop := ∃ t b : Int, d = .tup [.int t, .int b] ∧ 0 < b ∧ t.natAbs < 2 ^ k ∧ b.natAbs < 2 ^ k
/-- a fraction in lowest terms -/
def nf (t b : Int) : D := .tup [.int (t / ((Nat.gcd t.natAbs b.natAbs : Nat) : Int)), .int (b / ((Nat.gcd t.natAbs b.natAbs : Nat) : Int))]
theorem gcd_w {t b : Int} (h0 : 0 < b) (h : b.natAbs < 2 ^ 900) (x : Int) : CDivW x (Nat.gcd t.natAbs b.natAbs : Nat) := by
  have hg : 0 < Nat.gcd t.natAbs b.natAbs := Nat.gcd_pos_of_pos_right _ (by omega)
  have gb : Nat.gcd t.natAbs b.natAbs ≤ b.natAbs := Nat.le_of_dvd (by omega) (Nat.gcd_dvd_right _ _)
  exact wide_div (b := 900) (by omega) (by rw [Int.natAbs_natCast]; omega) (by decide) (by decide)
theorem pow_le {a b : Nat} (h : a ≤ b) : (2 : Nat) ^ a ≤ 2 ^ b := Nat.pow_le_pow_right (by decide) h
/-- its integers are below 2 ^ k -/
def SmI (k : Nat) (x y : Int) : Prop := x.natAbs < 2 ^ k ∧ y.natAbs < 2 ^ k
theorem mul_abs {i j : Int} {a b : Nat} (h1 : i.natAbs < 2 ^ a) (h2 : j.natAbs < 2 ^ b) : (i * j).natAbs < 2 ^ (a + b) := wide_lt h1 h2
theorem cmul_w {i j : Int} {a b : Nat} (h1 : i.natAbs < 2 ^ a) (h2 : j.natAbs < 2 ^ b) (ha : 0 < a) (hb : 0 < b) (h : a + b ≤ 1000000) : CMulA i j := .inr (wide_mul h1 h2 ha hb h)
theorem pos_right {a b : Int} (ha : 0 < a) (h : 0 < a * b) : 0 < b := by
  cases Int.lt_or_le 0 b with
  | inl z => exact z
  | inr z =>
    have := Int.mul_le_mul_of_nonneg_left z (Int.le_of_lt ha)
    omega
theorem nf_eq {t b t' b' : Int} (hb : 0 < b) (hb' : 0 < b') (h : t * b' = t' * b) : nf t b = nf t' b' := by
  have z : b.natAbs ≠ 0 := by omega
  have z' : b'.natAbs ≠ 0 := by omega
  have e : Rat.normalize t b.natAbs z = Rat.normalize t' b'.natAbs z' := by
    rw [Rat.normalize_eq_iff]
    have h1 : ((b.natAbs : Nat) : Int) = b := by omega
    have h2 : ((b'.natAbs : Nat) : Int) = b' := by omega
    rw [h1, h2]
    exact h
  rw [Rat.normalize_eq, Rat.normalize_eq] at e
  have e1 := congrArg Rat.num e
  have e2 := congrArg Rat.den e
  have e1 : t / ((Nat.gcd t.natAbs b.natAbs : Nat) : Int) = t' / ((Nat.gcd t'.natAbs b'.natAbs : Nat) : Int) := e1
  have e2 : b.natAbs / Nat.gcd t.natAbs b.natAbs = b'.natAbs / Nat.gcd t'.natAbs b'.natAbs := e2
  have e3 : b / ((Nat.gcd t.natAbs b.natAbs : Nat) : Int) = b' / ((Nat.gcd t'.natAbs b'.natAbs : Nat) : Int) := by
    have h1 : b = ((b.natAbs : Nat) : Int) := by omega
    have h2 : b' = ((b'.natAbs : Nat) : Int) := by omega
    rw [h1, h2, ← Int.natCast_ediv, ← Int.natCast_ediv]
    simpa using congrArg (Nat.cast : Nat → Int) e2
  unfold nf
  rw [e1, e3]
theorem nf_self {t b : Int} (h : Nat.gcd t.natAbs b.natAbs = 1) : nf t b = .tup [.int t, .int b] := by
  unfold nf
  rw [h]
  simp
theorem nf_parts {t b : Int} (hb : 0 < b) : ∃ t' b', nf t b = .tup [.int t', .int b'] ∧ 0 < b' ∧ t' * b = t * b' ∧ t'.natAbs ≤ t.natAbs ∧ b'.natAbs ≤ b.natAbs ∧ Nat.gcd t'.natAbs b'.natAbs = 1 := by
  have hg : 0 < Nat.gcd t.natAbs b.natAbs := Nat.gcd_pos_of_pos_right _ (by omega)
  have hg' : ((Nat.gcd t.natAbs b.natAbs : Nat) : Int) ≠ 0 := by omega
  obtain ⟨x, hx⟩ : ((Nat.gcd t.natAbs b.natAbs : Nat) : Int) ∣ t := Int.ofNat_dvd_left.mpr (Nat.gcd_dvd_left _ _)
  obtain ⟨y, hy⟩ : ((Nat.gcd t.natAbs b.natAbs : Nat) : Int) ∣ b := Int.ofNat_dvd_left.mpr (Nat.gcd_dvd_right _ _)
  have ex : t / ((Nat.gcd t.natAbs b.natAbs : Nat) : Int) = x := Int.ediv_eq_of_eq_mul_right hg' hx
  have ey : b / ((Nat.gcd t.natAbs b.natAbs : Nat) : Int) = y := Int.ediv_eq_of_eq_mul_right hg' hy
  have ax : t.natAbs = Nat.gcd t.natAbs b.natAbs * x.natAbs := by
    have := congrArg Int.natAbs hx
    rwa [Int.natAbs_mul, Int.natAbs_natCast] at this
  have ay : b.natAbs = Nat.gcd t.natAbs b.natAbs * y.natAbs := by
    have := congrArg Int.natAbs hy
    rwa [Int.natAbs_mul, Int.natAbs_natCast] at this
  refine ⟨x, y, by unfold nf; rw [ex, ey], ?_, ?_, ?_, ?_, ?_⟩
  · rw [hy] at hb
    exact pos_right (by omega) hb
  · generalize Nat.gcd t.natAbs b.natAbs = g at hx hy
    rw [hx, hy]
    simp only [Int.mul_assoc, Int.mul_comm, Int.mul_left_comm]
  · rw [ax]; exact Nat.le_mul_of_pos_left _ hg
  · rw [ay]; exact Nat.le_mul_of_pos_left _ hg
  · have h := Nat.gcd_div (Nat.gcd_dvd_left t.natAbs b.natAbs) (Nat.gcd_dvd_right t.natAbs b.natAbs)
    rw [Nat.div_self hg] at h
    have e1 : t.natAbs / Nat.gcd t.natAbs b.natAbs = x.natAbs := Nat.div_eq_of_eq_mul_right hg ax
    have e2 : b.natAbs / Nat.gcd t.natAbs b.natAbs = y.natAbs := Nat.div_eq_of_eq_mul_right hg ay
    rwa [e1, e2] at h
/-- a pair of integers is not great -/
def SmB (k : Nat) : D → Prop | .tup [.int x, .int y] => SmI k x y | _ => True
/-- plain data, n deep at most -/
def ShD : Nat → D → Prop
  | 0, _ => False
  | _ + 1, .non => True
  | _ + 1, .bl _ => True
  | _ + 1, .int _ => True
  | n + 1, .tup ds => ∀ d ∈ ds, ShD n d
  | n + 1, .lst ds => ∀ d ∈ ds, ShD n d
  | _ + 1, _ => False
theorem shDs_py {n : Nat} (ih : ∀ d, ShD n d → ∃ p, toPy d = some p ∧ p.canLay0 = true ∧ p.depth ≤ n) : ∀ {ds : List D}, (∀ d ∈ ds, ShD n d) → ∃ ps, toPys ds = some ps ∧ PyData.canLayAll0 ps = true ∧ PyData.depthAll ps ≤ n ∧ ps = ds.map pyD
  | [], _ => ⟨[], rfl, rfl, Nat.zero_le _, rfl⟩
  | d :: ds, h => by
    obtain ⟨p, e1, c1, d1⟩ := ih d (h d (by simp))
    obtain ⟨ps, e2, c2, d2, e3⟩ := shDs_py ih (ds := ds) fun x hx => h x (by simp [hx])
    refine ⟨p :: ps, ?_, ?_, ?_, ?_⟩
    · show (toPy d).bind _ = _
      rw [e1, e2]
      rfl
    · show (PyData.canLay0 p && PyData.canLayAll0 ps) = true
      rw [c1, c2]
      rfl
    · show max (PyData.depth p) (PyData.depthAll ps) ≤ n
      omega
    · rw [List.map_cons, e3]
      congr 1
      unfold pyD
      rw [e1]
      rfl
theorem shD_py : ∀ {n : Nat} {d : D}, ShD n d → ∃ p, toPy d = some p ∧ p.canLay0 = true ∧ p.depth ≤ n
  | 0, _, h => h.elim
  | n + 1, .non, _ => ⟨_, rfl, rfl, Nat.zero_le _⟩
  | n + 1, .bl _, _ => ⟨_, rfl, rfl, Nat.zero_le _⟩
  | n + 1, .int _, _ => ⟨_, rfl, rfl, Nat.zero_le _⟩
  | n + 1, .tup ds, h => by
    obtain ⟨ps, e, c, d, _⟩ := shDs_py (fun _ => shD_py) (ds := ds) h
    refine ⟨.tuple ps, ?_, c, Nat.succ_le_succ d⟩
    show (toPys ds).map PyData.tuple = _
    rw [e]
    rfl
  | n + 1, .lst ds, h => by
    obtain ⟨ps, e, c, d, _⟩ := shDs_py (fun _ => shD_py) (ds := ds) h
    refine ⟨.list ps, ?_, c, Nat.succ_le_succ d⟩
    show (toPys ds).map PyData.list = _
    rw [e]
    rfl
  | n + 1, .str _, h => h.elim
  | n + 1, .fl _, h => h.elim
  | n + 1, .ty _, h => h.elim
  | n + 1, .oth _, h => h.elim
  | n + 1, .ins _ _, h => h.elim
theorem shD_sh {n : Nat} {d : D} (h : ShD n d) (hn : n ≤ 60) : toPy d = some (pyD d) ∧ SeqAt.shaped (pyD d) = true := by
  obtain ⟨p, e, c, dp⟩ := shD_py h
  have e2 : pyD d = p := by unfold pyD; rw [e]; rfl
  rw [e2]
  refine ⟨e, ?_⟩
  unfold SeqAt.shaped
  rw [c, decide_eq_true (show p.depth ≤ 64 by omega)]
  rfl
def eqB (x y : D) : Bool := PyData.eqv (pyD x) (pyD y)
def inB (x : D) (ys : List D) : Bool := ys.any fun y => PyData.eqv (pyD y) (pyD x)
theorem gEqD_of {n m : Nat} {x y : D} {q : D → Prop} (h : ShD n x) (g : ShD m y) (hn : n ≤ 60) (hm : m ≤ 60) (hq : q (.bl (eqB x y))) : gEqD x y q := by
  obtain ⟨a1, a2⟩ := shD_sh h hn
  obtain ⟨b1, b2⟩ := shD_sh g hm
  exact ⟨_, _, a1, b1, a2, b2, hq⟩
theorem gInT_of {n m : Nat} {x : D} {ys : List D} {q : D → Prop} (h : ShD n x) (g : ShD m (.tup ys)) (hn : n ≤ 60) (hm : m ≤ 60) (hq : q (.bl (inB x ys))) : gInT x (.tup ys) q := by
  obtain ⟨a1, a2⟩ := shD_sh h hn
  obtain ⟨b1, b2⟩ := shD_sh g hm
  cases m with
  | zero => exact g.elim
  | succ m =>
    obtain ⟨ps, e, c, d, e3⟩ := shDs_py (fun _ => shD_py) (ds := ys) g
    have e4 : pyD (.tup ys) = .tuple ps := by
      unfold pyD
      show ((toPys ys).map PyData.tuple).getD .none = _
      rw [e]
      rfl
    rw [e4] at b1 b2
    refine ⟨_, ps, a1, b1, a2, b2, ?_⟩
    have : (ps.any fun z => PyData.eqv z (pyD x)) = inB x ys := by
      unfold inB
      rw [e3, List.any_map]
      rfl
    rw [this]
    exact hq
/-- going along places: the first that is not right -/
def firstIx (P : Nat → Bool) : Nat → Nat → Option Nat
  | _, 0 => none
  | k, n + 1 => if P k = true then firstIx P (k + 1) n else some k
theorem firstIx_ok {P : Nat → Bool} {i n : Nat} (hi : i < n) (h : P i = true) : firstIx P i (n - i) = firstIx P (i + 1) (n - (i + 1)) := by
  have : n - i = (n - (i + 1)) + 1 := by omega
  rw [this, firstIx, if_pos h]
theorem firstIx_no {P : Nat → Bool} {i n : Nat} (hi : i < n) (h : P i = false) : firstIx P i (n - i) = some i := by
  have : n - i = (n - (i + 1)) + 1 := by omega
  rw [this, firstIx, if_neg (by rw [h]; simp)]
theorem pow6 : (10 : Int) ^ Int.toNat 6 = 1000000 := by decide +kernel
theorem pow30 : (10 : Int) ^ Int.toNat 30 = 1000000000000000000000000000000 := by decide +kernel
abbrev webD (C : Addr) (ws ps : D) : D := .ins C [("widths", ws), ("pipes", ps)]
theorem web_w {ws ps : D} : ([((Str.ofString "widths"), ws), (Str.ofString "pipes", ps)] : List (Str × D)).lookup (Str.ofString "widths") = some ws := by simp [List.lookup]
theorem web_p {ws ps : D} : ([((Str.ofString "widths"), ws), (Str.ofString "pipes", ps)] : List (Str × D)).lookup (Str.ofString "pipes") = some ps := by
  have : (Str.ofString "pipes" == Str.ofString "widths") = false := by decide +kernel
  simp [List.lookup, this]
theorem web_wE {C : Addr} {a b : D} {P : D → Prop} : (∃ gs, webD C a b = D.ins C gs ∧ ∃ x, List.lookup (Str.ofString "widths") gs = some x ∧ P x) ↔ P a :=
  ⟨fun ⟨gs, e, x, h, p⟩ => by
    cases e
    have h : List.lookup (Str.ofString "widths") [(Str.ofString "widths", a), (Str.ofString "pipes", b)] = some x := h
    rw [web_w] at h
    cases h
    exact p, fun p => ⟨_, rfl, _, web_w, p⟩⟩
theorem web_pE {C : Addr} {a b : D} {P : D → Prop} : (∃ gs, webD C a b = D.ins C gs ∧ ∃ x, List.lookup (Str.ofString "pipes") gs = some x ∧ P x) ↔ P b :=
  ⟨fun ⟨gs, e, x, h, p⟩ => by
    cases e
    have h : List.lookup (Str.ofString "pipes") [(Str.ofString "widths", a), (Str.ofString "pipes", b)] = some x := h
    rw [web_p] at h
    cases h
    exact p, fun p => ⟨_, rfl, _, web_p, p⟩⟩
theorem webD_inj {C : Addr} {us ds us' ds' : List D} : (webD C (.tup us) (.tup ds) = webD C (.tup us') (.tup ds')) = (us = us' ∧ ds = ds') := by
  simp [webD]
end

structure CT where
  C_Web : Addr
  C_BadWeb : Addr
  C_TooMany : Addr
structure Txt (K : PySem.W.Frag) (mg : Str → Option Value) where
  f_is_integer : Addr
  fd_is_integer : FuncData
  F_is_integer : Fun K "is_integer" "is_integer" (topS 2) f_is_integer fd_is_integer
  b_is_integer : Binds K fd_is_integer ["thing"] []
  g_is_integer : mg "is_integer" = some (.ref f_is_integer)
  k_is_integer : PySem.W.keepIn K (.ref f_is_integer) = true
  f_is_between : Addr
  fd_is_between : FuncData
  F_is_between : Fun K "is_between" "is_between" (topS 3) f_is_between fd_is_between
  b_is_between : Binds K fd_is_between ["low", "high", "thing"] []
  g_is_between : mg "is_between" = some (.ref f_is_between)
  k_is_between : PySem.W.keepIn K (.ref f_is_between) = true
  f_is_tuple_of : Addr
  fd_is_tuple_of : FuncData
  F_is_tuple_of : Fun K "is_tuple_of" "is_tuple_of" (topS 4) f_is_tuple_of fd_is_tuple_of
  b_is_tuple_of : Binds K fd_is_tuple_of ["low", "high", "thing"] []
  g_is_tuple_of : mg "is_tuple_of" = some (.ref f_is_tuple_of)
  k_is_tuple_of : PySem.W.keepIn K (.ref f_is_tuple_of) = true
  f_is_fraction : Addr
  fd_is_fraction : FuncData
  F_is_fraction : Fun K "is_fraction" "is_fraction" (topS 5) f_is_fraction fd_is_fraction
  b_is_fraction : Binds K fd_is_fraction ["thing"] []
  g_is_fraction : mg "is_fraction" = some (.ref f_is_fraction)
  k_is_fraction : PySem.W.keepIn K (.ref f_is_fraction) = true
  f_at_most : Addr
  fd_at_most : FuncData
  F_at_most : Fun K "at_most" "at_most" (topS 6) f_at_most fd_at_most
  b_at_most : Binds K fd_at_most ["one", "other"] []
  g_at_most : mg "at_most" = some (.ref f_at_most)
  k_at_most : PySem.W.keepIn K (.ref f_at_most) = true
  f_is_threshold : Addr
  fd_is_threshold : FuncData
  F_is_threshold : Fun K "is_threshold" "is_threshold" (topS 16) f_is_threshold fd_is_threshold
  b_is_threshold : Binds K fd_is_threshold ["thing"] []
  g_is_threshold : mg "is_threshold" = some (.ref f_is_threshold)
  k_is_threshold : PySem.W.keepIn K (.ref f_is_threshold) = true
  f_is_list : Addr
  fd_is_list : FuncData
  F_is_list : Fun K "is_list" "is_list" (topS 17) f_is_list fd_is_list
  b_is_list : Binds K fd_is_list ["thing"] []
  g_is_list : mg "is_list" = some (.ref f_is_list)
  k_is_list : PySem.W.keepIn K (.ref f_is_list) = true
  f_is_width : Addr
  fd_is_width : FuncData
  F_is_width : Fun K "is_width" "is_width" (topS 18) f_is_width fd_is_width
  b_is_width : Binds K fd_is_width ["thing"] []
  g_is_width : mg "is_width" = some (.ref f_is_width)
  k_is_width : PySem.W.keepIn K (.ref f_is_width) = true
  f_is_widths : Addr
  fd_is_widths : FuncData
  F_is_widths : Fun K "is_widths" "is_widths" (topS 26) f_is_widths fd_is_widths
  b_is_widths : Binds K fd_is_widths ["thing"] []
  g_is_widths : mg "is_widths" = some (.ref f_is_widths)
  k_is_widths : PySem.W.keepIn K (.ref f_is_widths) = true
  f_is_pipe : Addr
  fd_is_pipe : FuncData
  F_is_pipe : Fun K "is_pipe" "is_pipe" (topS 27) f_is_pipe fd_is_pipe
  b_is_pipe : Binds K fd_is_pipe ["vessels", "thing"] []
  g_is_pipe : mg "is_pipe" = some (.ref f_is_pipe)
  k_is_pipe : PySem.W.keepIn K (.ref f_is_pipe) = true
  f_Web__init__ : Addr
  fd_Web__init__ : FuncData
  F_Web__init__ : Fun K "__init__" "Web.__init__" (inClass (topS 28) 0) f_Web__init__ fd_Web__init__
  b_Web__init__ : Binds K fd_Web__init__ ["self", "widths", "pipes"] []
  f_nets_by : Addr
  fd_nets_by : FuncData
  F_nets_by : Fun K "nets_by" "nets_by" (topS 22) f_nets_by fd_nets_by
  b_nets_by : Binds K fd_nets_by ["web", "ran"] []
  g_nets_by : mg "nets_by" = some (.ref f_nets_by)
  k_nets_by : PySem.W.keepIn K (.ref f_nets_by) = true
  f_check_flows : Addr
  fd_check_flows : FuncData
  F_check_flows : Fun K "check_flows" "check_flows" (topS 33) f_check_flows fd_check_flows
  b_check_flows : Binds K fd_check_flows ["web", "most"] []
  g_check_flows : mg "check_flows" = some (.ref f_check_flows)
  k_check_flows : PySem.W.keepIn K (.ref f_check_flows) = true
  f_all_flows : Addr
  fd_all_flows : FuncData
  F_all_flows : Fun K "all_flows" "all_flows" (topS 39) f_all_flows fd_all_flows
  b_all_flows : Binds K fd_all_flows ["web"] []
  g_all_flows : mg "all_flows" = some (.ref f_all_flows)
  k_all_flows : PySem.W.keepIn K (.ref f_all_flows) = true
  f_in_grains : Addr
  fd_in_grains : FuncData
  F_in_grains : Fun K "in_grains" "in_grains" (topS 19) f_in_grains fd_in_grains
  b_in_grains : Binds K fd_in_grains ["thresholds", "many"] []
  g_in_grains : mg "in_grains" = some (.ref f_in_grains)
  k_in_grains : PySem.W.keepIn K (.ref f_in_grains) = true
  f_check_widths : Addr
  fd_check_widths : FuncData
  F_check_widths : Fun K "check_widths" "check_widths" (topS 32) f_check_widths fd_check_widths
  b_check_widths : Binds K fd_check_widths ["web"] []
  g_check_widths : mg "check_widths" = some (.ref f_check_widths)
  k_check_widths : PySem.W.keepIn K (.ref f_check_widths) = true
  f_share : Addr
  fd_share : FuncData
  F_share : Fun K "share" "share" (topS 34) f_share fd_share
  b_share : Binds K fd_share ["width", "many"] []
  g_share : mg "share" = some (.ref f_share)
  k_share : PySem.W.keepIn K (.ref f_share) = true
  f_shares_of : Addr
  fd_shares_of : FuncData
  F_shares_of : Fun K "shares_of" "shares_of" (topS 35) f_shares_of fd_shares_of
  b_shares_of : Binds K fd_shares_of ["web"] []
  g_shares_of : mg "shares_of" = some (.ref f_shares_of)
  k_shares_of : PySem.W.keepIn K (.ref f_shares_of) = true
  f_window : Addr
  fd_window : FuncData
  F_window : Fun K "window" "window" (topS 20) f_window fd_window
  b_window : Binds K fd_window ["steps", "ran", "least", "most"] []
  g_window : mg "window" = some (.ref f_window)
  k_window : PySem.W.keepIn K (.ref f_window) = true
  f_leeways : Addr
  fd_leeways : FuncData
  F_leeways : Fun K "leeways" "leeways" (topS 36) f_leeways fd_leeways
  b_leeways : Binds K fd_leeways ["web", "many", "shares", "pattern"] []
  g_leeways : mg "leeways" = some (.ref f_leeways)
  k_leeways : PySem.W.keepIn K (.ref f_leeways) = true
  f_least_places : Addr
  fd_least_places : FuncData
  F_least_places : Fun K "least_places" "least_places" (topS 37) f_least_places fd_least_places
  b_least_places : Binds K fd_least_places ["web", "many", "shares", "nets", "apart"] []
  g_least_places : mg "least_places" = some (.ref f_least_places)
  k_least_places : PySem.W.keepIn K (.ref f_least_places) = true
  f_standing_of : Addr
  fd_standing_of : FuncData
  F_standing_of : Fun K "standing_of" "standing_of" (topS 38) f_standing_of fd_standing_of
  b_standing_of : Binds K fd_standing_of ["web", "pattern"] []
  g_standing_of : mg "standing_of" = some (.ref f_standing_of)
  k_standing_of : PySem.W.keepIn K (.ref f_standing_of) = true
  f_runs : Addr
  fd_runs : FuncData
  F_runs : Fun K "runs" "runs" (topS 40) f_runs fd_runs
  b_runs : Binds K fd_runs ["web", "flows"] []
  g_runs : mg "runs" = some (.ref f_runs)
  k_runs : PySem.W.keepIn K (.ref f_runs) = true
  f_stills : Addr
  fd_stills : FuncData
  F_stills : Fun K "stills" "stills" (topS 41) f_stills fd_stills
  b_stills : Binds K fd_stills ["web"] []
  g_stills : mg "stills" = some (.ref f_stills)
  k_stills : PySem.W.keepIn K (.ref f_stills) = true
  f_calm_web : Addr
  fd_calm_web : FuncData
  F_calm_web : Fun K "calm_web" "calm_web" (topS 42) f_calm_web fd_calm_web
  b_calm_web : Binds K fd_calm_web ["web"] []
  g_calm_web : mg "calm_web" = some (.ref f_calm_web)
  k_calm_web : PySem.W.keepIn K (.ref f_calm_web) = true
  f__law_tape : Addr
  fd__law_tape : FuncData
  F__law_tape : Fun K "_law_tape" "_law_tape" (topS 44) f__law_tape fd__law_tape
  b__law_tape : Binds K fd__law_tape ["script"] []
  g__law_tape : mg "_law_tape" = some (.ref f__law_tape)
  k__law_tape : PySem.W.keepIn K (.ref f__law_tape) = true
  f__law_pick : Addr
  fd__law_pick : FuncData
  F__law_pick : Fun K "_law_pick" "_law_pick" (topS 45) f__law_pick fd__law_pick
  b__law_pick : Binds K fd__law_pick ["tape", "size"] []
  g__law_pick : mg "_law_pick" = some (.ref f__law_pick)
  k__law_pick : PySem.W.keepIn K (.ref f__law_pick) = true
  f__law_lowest : Addr
  fd__law_lowest : FuncData
  F__law_lowest : Fun K "_law_lowest" "_law_lowest" (topS 47) f__law_lowest fd__law_lowest
  b__law_lowest : Binds K fd__law_lowest ["top", "bottom"] []
  g__law_lowest : mg "_law_lowest" = some (.ref f__law_lowest)
  k__law_lowest : PySem.W.keepIn K (.ref f__law_lowest) = true
  f__law_grains : Addr
  fd__law_grains : FuncData
  F__law_grains : Fun K "_law_grains" "_law_grains" (topS 49) f__law_grains fd__law_grains
  b__law_grains : Binds K fd__law_grains ["width", "other"] []
  g__law_grains : mg "_law_grains" = some (.ref f__law_grains)
  k__law_grains : PySem.W.keepIn K (.ref f__law_grains) = true
  f__law_two_right : Addr
  fd__law_two_right : FuncData
  F__law_two_right : Fun K "_law_two_right" "_law_two_right" (topS 50) f__law_two_right fd__law_two_right
  b__law_two_right : Binds K fd__law_two_right ["tape"] []
  g__law_two_right : mg "_law_two_right" = some (.ref f__law_two_right)
  k__law_two_right : PySem.W.keepIn K (.ref f__law_two_right) = true
  Z : CT
  cm_Web : Mk K Z.C_Web f_Web__init__
  gc_Web : mg "Web" = some (.ref Z.C_Web)
  it_Web : InsTy K Z.C_Web
  ok_Web : OkD K (.oth (.ref Z.C_Web))
  fi_BadWeb : Addr
  fdx_BadWeb : FuncData
  Fx_BadWeb : Fun K "__init__" "BadWeb.__init__" (inClass (topS 9) 0) fi_BadWeb fdx_BadWeb
  bx_BadWeb : Binds K fdx_BadWeb ["self", "part"] []
  gx_BadWeb : mg "BadWeb" = some (.ref Z.C_BadWeb)
  ox_BadWeb : OexC K Z.C_BadWeb
  xi_BadWeb : PySem.W.findIn K (.ref Z.C_BadWeb) "__init__" = some (some (.ref fi_BadWeb))
  xt_BadWeb : PySem.W.typeIn K (.ref fi_BadWeb) = some (.type "function")
  no_BadWeb : PySem.W.findIn K (.ref Z.C_BadWeb) "part" = some none
  xf_BadWeb : L2.XfC K Z.C_BadWeb
  fi_TooMany : Addr
  fdx_TooMany : FuncData
  Fx_TooMany : Fun K "__init__" "TooMany.__init__" (inClass (topS 10) 0) fi_TooMany fdx_TooMany
  bx_TooMany : Binds K fdx_TooMany ["self", "most"] []
  gx_TooMany : mg "TooMany" = some (.ref Z.C_TooMany)
  ox_TooMany : OexC K Z.C_TooMany
  xi_TooMany : PySem.W.findIn K (.ref Z.C_TooMany) "__init__" = some (some (.ref fi_TooMany))
  xt_TooMany : PySem.W.typeIn K (.ref fi_TooMany) = some (.type "function")
  no_TooMany : PySem.W.findIn K (.ref Z.C_TooMany) "most" = some none
  xf_TooMany : L2.XfC K Z.C_TooMany
  na_Web_pipes : NoAttr K Z.C_Web "pipes"
  na_Web_widths : NoAttr K Z.C_Web "widths"
  z_abs : mg "abs" = none
  z_all : mg "all" = none
  z_any : mg "any" = none
  z_bool : mg "bool" = none
  z_enumerate : mg "enumerate" = none
  z_int : mg "int" = none
  z_isinstance : mg "isinstance" = none
  z_len : mg "len" = none
  z_list : mg "list" = none
  z_max : mg "max" = none
  z_min : mg "min" = none
  z_range : mg "range" = none
  z_tuple : mg "tuple" = none
  z_zip : mg "zip" = none
  t_MOST_BOTTOM : Tok
  c_MOST_BOTTOM : mg "MOST_BOTTOM" = some (.int 144 t_MOST_BOTTOM)
  t_MOST_PATTERNS : Tok
  c_MOST_PATTERNS : mg "MOST_PATTERNS" = some (.int 5000 t_MOST_PATTERNS)
  t_MOST_PIPES : Tok
  c_MOST_PIPES : mg "MOST_PIPES" = some (.int 36 t_MOST_PIPES)
  t_MOST_THRESHOLDS : Tok
  c_MOST_THRESHOLDS : mg "MOST_THRESHOLDS" = some (.int 6 t_MOST_THRESHOLDS)
  t_MOST_TOP : Tok
  c_MOST_TOP : mg "MOST_TOP" = some (.int 1000000 t_MOST_TOP)
  t_MOST_VESSELS : Tok
  c_MOST_VESSELS : mg "MOST_VESSELS" = some (.int 12 t_MOST_VESSELS)
  t_MOST_WIDTH : Tok
  c_MOST_WIDTH : mg "MOST_WIDTH" = some (.int 12 t_MOST_WIDTH)
  t_MOST_WIDTHS : Tok
  c_MOST_WIDTHS : mg "MOST_WIDTHS" = some (.int 64 t_MOST_WIDTHS)
  m_gcd : mg "gcd" = some (.builtin "math.gcd")
  m_lcm : mg "lcm" = some (.builtin "math.lcm")
abbrev sx_BadWeb : Stmt := inClass (topS 9) 0
theorem scx_BadWeb : FnScope ["self", "part"] ["self", "part"] (defScope sx_BadWeb) := ⟨rfl, rfl, rfl, by decide +kernel, rfl, by decide +kernel, by decide +kernel⟩
theorem okx_BadWeb [TB : TabT] {P : Program} {w : World} {K : PySem.W.Frag} {mg : Str → Option Value} {base : Heap} (T : Txt K mg) : FnOk P w K mg base (L2.CX P w) 1 T.fi_BadWeb T.fdx_BadWeb ["self", "part"] (spX1 K T.Z.C_BadWeb "part") := exc1_ok T.Fx_BadWeb scx_BadWeb rfl (by decide) (fun _ => rfl) T.ox_BadWeb T.no_BadWeb fun _ _ _ _ _ _ => ⟨pv 0, pv 1⟩
abbrev sx_TooMany : Stmt := inClass (topS 10) 0
theorem scx_TooMany : FnScope ["self", "most"] ["self", "most"] (defScope sx_TooMany) := ⟨rfl, rfl, rfl, by decide +kernel, rfl, by decide +kernel, by decide +kernel⟩
theorem okx_TooMany [TB : TabT] {P : Program} {w : World} {K : PySem.W.Frag} {mg : Str → Option Value} {base : Heap} (T : Txt K mg) : FnOk P w K mg base (L2.CX P w) 1 T.fi_TooMany T.fdx_TooMany ["self", "most"] (spX1 K T.Z.C_TooMany "most") := exc1_ok T.Fx_TooMany scx_TooMany rfl (by decide) (fun _ => rfl) T.ox_TooMany T.no_TooMany fun _ _ _ _ _ _ => ⟨pv 0, pv 1⟩
section
variable [TB : TabT] {P : Program} {w : World} {K : PySem.W.Frag} {mg : Str → Option Value} {base : Heap}
abbrev s_is_integer : Stmt := topS 2
theorem sc_is_integer : FnScope ["thing"] ["thing"] (defScope s_is_integer) := ⟨rfl, rfl, rfl, by decide +kernel, rfl, by decide +kernel, by decide +kernel⟩
def w_is_integer (K : PySem.W.Frag) : SW := (wRet (wAndV (wCB (gIsi K) (wCons (wVar 0) (wCons (wC (.ty "int")) wNil))) (wNotV (wCB (gIsi K) (wCons (wVar 0) (wCons (wC (.ty "bool")) wNil))))))
def isIntD : D → Bool | .int _ => true | _ => false
def fs_is_integer (K : PySem.W.Frag) : FS := fun cs q _ => ∃ d, cs = [.dat d] ∧ OkD K d ∧ q (.bl (isIntD d)) [.dat d]
theorem pure_is_integer : PureD 1 0 (fs_is_integer K) (w_is_integer K) := by
  rintro cs q e - ⟨d, rfl, hd, hq⟩
  simp only [w_is_integer, gIsi_iff hd (show "int" ∈ kinds by simp), gIsi_iff hd (show "bool" ∈ kinds by simp), wPeekR, wTor, wSor, wXor, gNotInL, wAugVC, wRetOwnG, wRetSortFr, wExtend, gMaxT, gMinT, wAppendB, gRepT1, wFrzD, dcOf, wKeys, wDGet, wDIn, wDkNew, wDtNew, wDlNew, wLate, wPopAt, wIsiT, wRepOwn, gRepL, wAugSOwn, wListRgOwn, wZipK3, gRepT, wCountB, wIndexB, wIsiOwn, wPeekL, wCallFr, wStar, wSortSet, wTryAs, wIsE, offE, wListRg1, wListRg2, wRngDown, wZipK, gInL, gNotInT, wCatOwn, gIsB, gNotB, D.adr.injEq, Cont.pool.injEq, ixN31, ne_eq, List.map_cons, List.map_nil, wPoolOpen, wPoolClose, wPop0, wPopTo, wListOwn, wRemove, wRaise0, wRaise1, wAugOwn, wEnumL, wTru, wSlA, gCatA, gLtT, gLeT, wFrz, wChain3, wAttr, wMkF, wEnumT, wRevT, wDict0, wDict1, numD3, Nat.reduceAdd, atI0, atI1, atI2, atI3, atI4, ixN51, ixN52, ixN53, List.length_map, wNever, scal, V.int.injEq, V.str.injEq, V.bl.injEq, wSq, wNext, wBreak, wCont, wDrop, wRet, wRetN, wIfS, wAsg, wPar, wLstOwn, wAppend, wSetOwn, wIxOwn, wPeek, wRetOwn, wRetFr, wFor, wB, wNot, wAnd, wOr, wAndV, wOrV, wNotV, wIf, wChain, wNil, wCons, wCB, wTup, wLst, wNoPart, wPart, wSlT, wSlL, wSeq, wRng1, wRng2, wZip, wName, wNilT, wConsT, wTupT, wYes, wNeg, wVar, wC, wOp, wcNil, wcCons, wcOwn, wCall, wCallOwn, slots, cellsOf, OwnArgs, putBack, g2I, g2IC, gLen, gAbs, gGcd, gInt1, gTupleOf, gListOf, gIx, gCatT, gCat, gEq, gNe, gIsN, gNotN, scD, seqD_t, seqD_l, seqD_f, isNonD, List.nodup_cons, List.mem_cons, List.not_mem_nil, or_false, not_false_eq_true, Nat.reduceEqDiff, L3.Keeps, ends, wipeD, List.replicate, List.cons_append, List.nil_append, List.append_nil, List.getElem?_cons_zero, List.getElem?_cons_succ, List.set_cons_zero, List.set_cons_succ, List.getD_cons_zero, List.getD_cons_succ, List.length_cons, List.length_nil, List.nodup_nil, Option.some.injEq, Cell.dat.injEq, Cell.own.injEq, Cont.lst.injEq, D.bl.injEq, D.int.injEq, D.str.injEq, D.tup.injEq, D.lst.injEq, Arg.d.injEq, List.cons.injEq, exists_and_left, exists_and_right, exists_eq_left', exists_eq_left, exists_eq_right, exists_eq_right', exists_eq, exists_eq', and_true, true_and, and_assoc, and_self, exists_const, reduceCtorEq, web_wE, web_pE, webD_inj]
  cases d <;> simp_all [isiD, isIntD]
theorem ok_is_integer (T : Txt K mg) : FnOk P w K mg base (L2.CX P w) 1 T.f_is_integer T.fd_is_integer ["thing"] (spOf K 1 (fs_is_integer K)) := by
  refine def_ok T.F_is_integer sc_is_integer (wb := w_is_integer K) pure_is_integer ?_
  intro cdv A outer s H E hr tk
  exact ⟨_, (pss_one (ps_ret (pe_and (pe_callB call_isi (by rfl) T.z_isinstance (by decide +kernel) (pa_cons (pv 0) (pa_cons (pe_bltn (v := .ty "int") (by rfl) T.z_int (by decide +kernel) rfl) pa_nil))) (pe_one (pe_not (pe_callB call_isi (by rfl) T.z_isinstance (by decide +kernel) (pa_cons (pv 0) (pa_cons (pe_bltn (v := .ty "bool") (by rfl) T.z_bool (by decide +kernel) rfl) pa_nil)))))))),
    (ds_ret (de_and (de_cb o_isi (da_cons (de_var 0) (da_cons de_ty da_nil))) (de_not (de_cb o_isi (da_cons (de_var 0) (da_cons de_ty da_nil))))))⟩
abbrev s_is_between : Stmt := topS 3
theorem sc_is_between : FnScope ["low", "high", "thing"] ["low", "high", "thing"] (defScope s_is_between) := ⟨rfl, rfl, rfl, by decide +kernel, rfl, by decide +kernel, by decide +kernel⟩
def w_is_between (K : PySem.W.Frag) : SW := (wRet (wAndV (wCall 1 (fs_is_integer K) (wcCons (wVar 2) wcNil)) (wChain gLeI gLeI (wVar 0) (wVar 2) (wVar 1))))
def isBetw (l h : Int) : D → Bool | .int i => decide (l ≤ i) && decide (i ≤ h) | _ => false
def fs_is_between (K : PySem.W.Frag) : FS := fun cs q _ => ∃ (l h : Int) (d : D), cs = [.dat (.int l), .dat (.int h), .dat d] ∧ OkD K d ∧ q (.bl (isBetw l h d)) cs
theorem pure_is_between : PureD 3 0 (fs_is_between K) (w_is_between K) := by
  rintro cs q e - ⟨l, h, d, rfl, hd, hq⟩
  simp only [w_is_between, fs_is_integer, hd, wPeekR, wTor, wSor, wXor, gNotInL, wAugVC, wRetOwnG, wRetSortFr, wExtend, gMaxT, gMinT, wAppendB, gRepT1, wFrzD, dcOf, wKeys, wDGet, wDIn, wDkNew, wDtNew, wDlNew, wLate, wPopAt, wIsiT, wRepOwn, gRepL, wAugSOwn, wListRgOwn, wZipK3, gRepT, wCountB, wIndexB, wIsiOwn, wPeekL, wCallFr, wStar, wSortSet, wTryAs, wIsE, offE, wListRg1, wListRg2, wRngDown, wZipK, gInL, gNotInT, wCatOwn, gIsB, gNotB, D.adr.injEq, Cont.pool.injEq, ixN31, ne_eq, List.map_cons, List.map_nil, wPoolOpen, wPoolClose, wPop0, wPopTo, wListOwn, wRemove, wRaise0, wRaise1, wAugOwn, wEnumL, wTru, wSlA, gCatA, gLtT, gLeT, wFrz, wChain3, wAttr, wMkF, wEnumT, wRevT, wDict0, wDict1, numD3, Nat.reduceAdd, atI0, atI1, atI2, atI3, atI4, ixN51, ixN52, ixN53, List.length_map, wNever, scal, V.int.injEq, V.str.injEq, V.bl.injEq, wSq, wNext, wBreak, wCont, wDrop, wRet, wRetN, wIfS, wAsg, wPar, wLstOwn, wAppend, wSetOwn, wIxOwn, wPeek, wRetOwn, wRetFr, wFor, wB, wNot, wAnd, wOr, wAndV, wOrV, wNotV, wIf, wChain, wNil, wCons, wCB, wTup, wLst, wNoPart, wPart, wSlT, wSlL, wSeq, wRng1, wRng2, wZip, wName, wNilT, wConsT, wTupT, wYes, wNeg, wVar, wC, wOp, wcNil, wcCons, wcOwn, wCall, wCallOwn, slots, cellsOf, OwnArgs, putBack, g2I, g2IC, gLen, gAbs, gGcd, gInt1, gTupleOf, gListOf, gIx, gCatT, gCat, gEq, gNe, gIsN, gNotN, scD, seqD_t, seqD_l, seqD_f, isNonD, List.nodup_cons, List.mem_cons, List.not_mem_nil, or_false, not_false_eq_true, Nat.reduceEqDiff, L3.Keeps, ends, wipeD, List.replicate, List.cons_append, List.nil_append, List.append_nil, List.getElem?_cons_zero, List.getElem?_cons_succ, List.set_cons_zero, List.set_cons_succ, List.getD_cons_zero, List.getD_cons_succ, List.length_cons, List.length_nil, List.nodup_nil, Option.some.injEq, Cell.dat.injEq, Cell.own.injEq, Cont.lst.injEq, D.bl.injEq, D.int.injEq, D.str.injEq, D.tup.injEq, D.lst.injEq, Arg.d.injEq, List.cons.injEq, exists_and_left, exists_and_right, exists_eq_left', exists_eq_left, exists_eq_right, exists_eq_right', exists_eq, exists_eq', and_true, true_and, and_assoc, and_self, exists_const, reduceCtorEq, web_wE, web_pE, webD_inj]
  cases d <;> simp_all [isIntD, isBetw]
  rename_i i
  refine ⟨fun h1 => ?_, fun h1 => ?_⟩
  · simpa [h1] using hq
  · have h2 : ¬ l ≤ i := by omega
    simpa [h2] using hq
theorem betw_int {l h : Int} {d : D} (e : isBetw l h d = true) : ∃ i, d = .int i ∧ l ≤ i ∧ i ≤ h := by
  cases d <;> simp [isBetw] at e
  exact ⟨_, rfl, e.1, e.2⟩
theorem ok_is_between (T : Txt K mg) : FnOk P w K mg base (L2.CX P w) 2 T.f_is_between T.fd_is_between ["low", "high", "thing"] (spOf K 3 (fs_is_between K)) := by
  refine def_ok T.F_is_between sc_is_between (wb := w_is_between K) pure_is_between ?_
  intro cdv A outer s H E hr tk
  exact ⟨_, (pss_one (ps_ret (pe_and (pe_callS (ok_is_integer T) (hr.mono (by decide)) rfl T.g_is_integer T.k_is_integer T.b_is_integer (fun σ => passAt tk σ) (pa_cons (pv 2) pa_nil)) (pe_one (pe_chain op_le op_le (pv 0) (pv 2) (pv 1)))))),
    (ds_ret (de_and (de_call (n := 1) (fs := fs_is_integer K) (dac_cons (de_var 2) dac_nil)) (de_chain o_le o_le (de_var 0) (de_var 2) (de_var 1))))⟩
abbrev s_is_tuple_of : Stmt := topS 4
theorem sc_is_tuple_of : FnScope ["low", "high", "thing"] ["low", "high", "thing"] (defScope s_is_tuple_of) := ⟨rfl, rfl, rfl, by decide +kernel, rfl, by decide +kernel, by decide +kernel⟩
def w_is_tuple_of (K : PySem.W.Frag) : SW := (wRet (wAndV (wCB (gIsi K) (wCons (wVar 2) (wCons (wC (.ty "tuple")) wNil))) (wChain gLeI gLeI (wVar 0) (wCB gLen (wCons (wVar 2) wNil)) (wVar 1))))
def isTupOf (l h : Int) : D → Bool | .tup ds => decide (l ≤ ds.length) && decide ((ds.length : Int) ≤ h) | _ => false
def fs_is_tuple_of (K : PySem.W.Frag) : FS := fun cs q _ => ∃ (l h : Int) (d : D), cs = [.dat (.int l), .dat (.int h), .dat d] ∧ OkD K d ∧ q (.bl (isTupOf l h d)) cs
theorem pure_is_tuple_of : PureD 3 0 (fs_is_tuple_of K) (w_is_tuple_of K) := by
  rintro cs q e - ⟨l, h, d, rfl, hd, hq⟩
  simp only [w_is_tuple_of, gIsi_iff hd (show "tuple" ∈ kinds by simp), wPeekR, wTor, wSor, wXor, gNotInL, wAugVC, wRetOwnG, wRetSortFr, wExtend, gMaxT, gMinT, wAppendB, gRepT1, wFrzD, dcOf, wKeys, wDGet, wDIn, wDkNew, wDtNew, wDlNew, wLate, wPopAt, wIsiT, wRepOwn, gRepL, wAugSOwn, wListRgOwn, wZipK3, gRepT, wCountB, wIndexB, wIsiOwn, wPeekL, wCallFr, wStar, wSortSet, wTryAs, wIsE, offE, wListRg1, wListRg2, wRngDown, wZipK, gInL, gNotInT, wCatOwn, gIsB, gNotB, D.adr.injEq, Cont.pool.injEq, ixN31, ne_eq, List.map_cons, List.map_nil, wPoolOpen, wPoolClose, wPop0, wPopTo, wListOwn, wRemove, wRaise0, wRaise1, wAugOwn, wEnumL, wTru, wSlA, gCatA, gLtT, gLeT, wFrz, wChain3, wAttr, wMkF, wEnumT, wRevT, wDict0, wDict1, numD3, Nat.reduceAdd, atI0, atI1, atI2, atI3, atI4, ixN51, ixN52, ixN53, List.length_map, wNever, scal, V.int.injEq, V.str.injEq, V.bl.injEq, wSq, wNext, wBreak, wCont, wDrop, wRet, wRetN, wIfS, wAsg, wPar, wLstOwn, wAppend, wSetOwn, wIxOwn, wPeek, wRetOwn, wRetFr, wFor, wB, wNot, wAnd, wOr, wAndV, wOrV, wNotV, wIf, wChain, wNil, wCons, wCB, wTup, wLst, wNoPart, wPart, wSlT, wSlL, wSeq, wRng1, wRng2, wZip, wName, wNilT, wConsT, wTupT, wYes, wNeg, wVar, wC, wOp, wcNil, wcCons, wcOwn, wCall, wCallOwn, slots, cellsOf, OwnArgs, putBack, g2I, g2IC, gLen, gAbs, gGcd, gInt1, gTupleOf, gListOf, gIx, gCatT, gCat, gEq, gNe, gIsN, gNotN, scD, seqD_t, seqD_l, seqD_f, isNonD, List.nodup_cons, List.mem_cons, List.not_mem_nil, or_false, not_false_eq_true, Nat.reduceEqDiff, L3.Keeps, ends, wipeD, List.replicate, List.cons_append, List.nil_append, List.append_nil, List.getElem?_cons_zero, List.getElem?_cons_succ, List.set_cons_zero, List.set_cons_succ, List.getD_cons_zero, List.getD_cons_succ, List.length_cons, List.length_nil, List.nodup_nil, Option.some.injEq, Cell.dat.injEq, Cell.own.injEq, Cont.lst.injEq, D.bl.injEq, D.int.injEq, D.str.injEq, D.tup.injEq, D.lst.injEq, Arg.d.injEq, List.cons.injEq, exists_and_left, exists_and_right, exists_eq_left', exists_eq_left, exists_eq_right, exists_eq_right', exists_eq, exists_eq', and_true, true_and, and_assoc, and_self, exists_const, reduceCtorEq, web_wE, web_pE, webD_inj]
  cases d <;> simp_all [isiD, isTupOf, seqD]
  rename_i ds
  refine ⟨fun h1 => ?_, fun h1 => ?_⟩
  · simpa [h1] using hq
  · have h2 : ¬ l ≤ (ds.length : Int) := by omega
    simpa [h2] using hq
theorem ok_is_tuple_of (T : Txt K mg) : FnOk P w K mg base (L2.CX P w) 1 T.f_is_tuple_of T.fd_is_tuple_of ["low", "high", "thing"] (spOf K 3 (fs_is_tuple_of K)) := by
  refine def_ok T.F_is_tuple_of sc_is_tuple_of (wb := w_is_tuple_of K) pure_is_tuple_of ?_
  intro cdv A outer s H E hr tk
  exact ⟨_, (pss_one (ps_ret (pe_and (pe_callB call_isi (by rfl) T.z_isinstance (by decide +kernel) (pa_cons (pv 2) (pa_cons (pe_bltn (v := .ty "tuple") (by rfl) T.z_tuple (by decide +kernel) rfl) pa_nil))) (pe_one (pe_chain op_le op_le (pv 0) (pe_callB call_len_seq (by rfl) T.z_len (by decide +kernel) (pa_cons (pv 2) pa_nil)) (pv 1)))))),
    (ds_ret (de_and (de_cb o_isi (da_cons (de_var 2) (da_cons de_ty da_nil))) (de_chain o_le o_le (de_var 0) (de_cb o_len (da_cons (de_var 2) da_nil)) (de_var 1))))⟩
abbrev s_is_fraction : Stmt := topS 5
theorem sc_is_fraction : FnScope ["thing", "top", "bottom"] ["thing"] (defScope s_is_fraction) := ⟨rfl, rfl, rfl, by decide +kernel, rfl, by decide +kernel, by decide +kernel⟩
def w_is_fraction (K : PySem.W.Frag) : SW := (wSq (wIfS (wNot (wB (wCall 3 (fs_is_tuple_of K) (wcCons (wC (.int 2)) (wcCons (wC (.int 2)) (wcCons (wVar 0) wcNil)))))) (wRet (wC (.bl false))) wNext)
  (wSq (wAsg (wVar 0) (wTupT 2 (wConsT (wName 1) (wConsT (wName 2) wNilT))))
  (wRet (wAndV (wCall 1 (fs_is_integer K) (wcCons (wVar 1) wcNil)) (wAndV (wCall 1 (fs_is_integer K) (wcCons (wVar 2) wcNil)) (wAndV (wOp gGeI (wVar 2) (wC (.int 1))) (wOp gEq (wCB gGcd (wCons (wVar 1) (wCons (wVar 2) wNil))) (wC (.int 1)))))))))
def isFr : D → Bool | .tup [.int t, .int b] => decide (1 ≤ b) && decide (Nat.gcd t.natAbs b.natAbs = 1) | _ => false
def fs_is_fraction (K : PySem.W.Frag) : FS := fun cs q _ => ∃ d, cs = [.dat d] ∧ OkD K d ∧ q (.bl (isFr d)) [.dat d]
theorem tup_two {d : D} (h : isTupOf 2 2 d = true) : ∃ x y, d = .tup [x, y] := by
  cases d <;> simp [isTupOf] at h
  rename_i ds
  match ds, h with
  | [], h => simp at h
  | [x], h => simp at h
  | [x, y], _ => exact ⟨x, y, rfl⟩
  | x :: y :: z :: r, h => simp at h; omega
theorem tup_not_two {d : D} (h : isTupOf 2 2 d = false) : isFr d = false := by
  cases d with
  | tup ds =>
    match ds with
    | [] => rfl
    | [x] => cases x <;> rfl
    | [x, y] => simp [isTupOf] at h
    | x :: y :: z :: r => cases x <;> cases y <;> rfl
  | _ => rfl
theorem int_of {x : D} (h : isIntD x = true) : ∃ i, x = .int i := by
  cases x <;> first | exact ⟨_, rfl⟩ | cases h
theorem fr_l {x y : D} (h : isIntD x = false) : isFr (.tup [x, y]) = false := by
  cases x <;> first | rfl | cases h
theorem fr_r {x y : D} (h : isIntD y = false) : isFr (.tup [x, y]) = false := by
  cases x <;> cases y <;> first | rfl | cases h
theorem pure_is_fraction : PureD 1 2 (fs_is_fraction K) (w_is_fraction K) := by
  rintro cs q e - ⟨d, rfl, hd, hq⟩
  cases h : isTupOf 2 2 d with
  | true =>
    obtain ⟨x, y, rfl⟩ := tup_two h
    have hx := okTup hd (d := x) (by simp)
    have hy := okTup hd (d := y) (by simp)
    simp only [w_is_fraction, fs_is_tuple_of, fs_is_integer, h, hd, hx, hy, wPeekR, wTor, wSor, wXor, gNotInL, wAugVC, wRetOwnG, wRetSortFr, wExtend, gMaxT, gMinT, wAppendB, gRepT1, wFrzD, dcOf, wKeys, wDGet, wDIn, wDkNew, wDtNew, wDlNew, wLate, wPopAt, wIsiT, wRepOwn, gRepL, wAugSOwn, wListRgOwn, wZipK3, gRepT, wCountB, wIndexB, wIsiOwn, wPeekL, wCallFr, wStar, wSortSet, wTryAs, wIsE, offE, wListRg1, wListRg2, wRngDown, wZipK, gInL, gNotInT, wCatOwn, gIsB, gNotB, D.adr.injEq, Cont.pool.injEq, ixN31, ne_eq, List.map_cons, List.map_nil, wPoolOpen, wPoolClose, wPop0, wPopTo, wListOwn, wRemove, wRaise0, wRaise1, wAugOwn, wEnumL, wTru, wSlA, gCatA, gLtT, gLeT, wFrz, wChain3, wAttr, wMkF, wEnumT, wRevT, wDict0, wDict1, numD3, Nat.reduceAdd, atI0, atI1, atI2, atI3, atI4, ixN51, ixN52, ixN53, List.length_map, wNever, scal, V.int.injEq, V.str.injEq, V.bl.injEq, wSq, wNext, wBreak, wCont, wDrop, wRet, wRetN, wIfS, wAsg, wPar, wLstOwn, wAppend, wSetOwn, wIxOwn, wPeek, wRetOwn, wRetFr, wFor, wB, wNot, wAnd, wOr, wAndV, wOrV, wNotV, wIf, wChain, wNil, wCons, wCB, wTup, wLst, wNoPart, wPart, wSlT, wSlL, wSeq, wRng1, wRng2, wZip, wName, wNilT, wConsT, wTupT, wYes, wNeg, wVar, wC, wOp, wcNil, wcCons, wcOwn, wCall, wCallOwn, slots, cellsOf, OwnArgs, putBack, g2I, g2IC, gLen, gAbs, gGcd, gInt1, gTupleOf, gListOf, gIx, gCatT, gCat, gEq, gNe, gIsN, gNotN, scD, seqD_t, seqD_l, seqD_f, isNonD, List.nodup_cons, List.mem_cons, List.not_mem_nil, or_false, not_false_eq_true, Nat.reduceEqDiff, L3.Keeps, ends, wipeD, List.replicate, List.cons_append, List.nil_append, List.append_nil, List.getElem?_cons_zero, List.getElem?_cons_succ, List.set_cons_zero, List.set_cons_succ, List.getD_cons_zero, List.getD_cons_succ, List.length_cons, List.length_nil, List.nodup_nil, Option.some.injEq, Cell.dat.injEq, Cell.own.injEq, Cont.lst.injEq, D.bl.injEq, D.int.injEq, D.str.injEq, D.tup.injEq, D.lst.injEq, Arg.d.injEq, List.cons.injEq, exists_and_left, exists_and_right, exists_eq_left', exists_eq_left, exists_eq_right, exists_eq_right', exists_eq, exists_eq', and_true, true_and, and_assoc, and_self, exists_const, reduceCtorEq, web_wE, web_pE, webD_inj]
    cases ix : isIntD x with
    | false =>
      rw [fr_l ix] at hq
      simpa using hq
    | true =>
      cases iy : isIntD y with
      | false =>
        rw [fr_r iy] at hq
        simpa using hq
      | true =>
        obtain ⟨t, rfl⟩ := int_of ix
        obtain ⟨b, rfl⟩ := int_of iy
        have e : isFr (.tup [.int t, .int b]) = (decide (1 ≤ b) && decide (((Nat.gcd t.natAbs b.natAbs : Nat) : Int) = 1)) := by
          simp only [isFr]
          congr 1
          exact decide_eq_decide.mpr (by omega)
        rw [e] at hq
        by_cases h1 : 1 ≤ b
        · simp [h1] at hq ⊢
          exact ⟨hq, fun z => absurd z (by omega)⟩
        · simp [h1] at hq ⊢
          exact fun _ => hq
  | false =>
    rw [tup_not_two h] at hq
    simp only [w_is_fraction, fs_is_tuple_of, fs_is_integer, h, hd, wPeekR, wTor, wSor, wXor, gNotInL, wAugVC, wRetOwnG, wRetSortFr, wExtend, gMaxT, gMinT, wAppendB, gRepT1, wFrzD, dcOf, wKeys, wDGet, wDIn, wDkNew, wDtNew, wDlNew, wLate, wPopAt, wIsiT, wRepOwn, gRepL, wAugSOwn, wListRgOwn, wZipK3, gRepT, wCountB, wIndexB, wIsiOwn, wPeekL, wCallFr, wStar, wSortSet, wTryAs, wIsE, offE, wListRg1, wListRg2, wRngDown, wZipK, gInL, gNotInT, wCatOwn, gIsB, gNotB, D.adr.injEq, Cont.pool.injEq, ixN31, ne_eq, List.map_cons, List.map_nil, wPoolOpen, wPoolClose, wPop0, wPopTo, wListOwn, wRemove, wRaise0, wRaise1, wAugOwn, wEnumL, wTru, wSlA, gCatA, gLtT, gLeT, wFrz, wChain3, wAttr, wMkF, wEnumT, wRevT, wDict0, wDict1, numD3, Nat.reduceAdd, atI0, atI1, atI2, atI3, atI4, ixN51, ixN52, ixN53, List.length_map, wNever, scal, V.int.injEq, V.str.injEq, V.bl.injEq, wSq, wNext, wBreak, wCont, wDrop, wRet, wRetN, wIfS, wAsg, wPar, wLstOwn, wAppend, wSetOwn, wIxOwn, wPeek, wRetOwn, wRetFr, wFor, wB, wNot, wAnd, wOr, wAndV, wOrV, wNotV, wIf, wChain, wNil, wCons, wCB, wTup, wLst, wNoPart, wPart, wSlT, wSlL, wSeq, wRng1, wRng2, wZip, wName, wNilT, wConsT, wTupT, wYes, wNeg, wVar, wC, wOp, wcNil, wcCons, wcOwn, wCall, wCallOwn, slots, cellsOf, OwnArgs, putBack, g2I, g2IC, gLen, gAbs, gGcd, gInt1, gTupleOf, gListOf, gIx, gCatT, gCat, gEq, gNe, gIsN, gNotN, scD, seqD_t, seqD_l, seqD_f, isNonD, List.nodup_cons, List.mem_cons, List.not_mem_nil, or_false, not_false_eq_true, Nat.reduceEqDiff, L3.Keeps, ends, wipeD, List.replicate, List.cons_append, List.nil_append, List.append_nil, List.getElem?_cons_zero, List.getElem?_cons_succ, List.set_cons_zero, List.set_cons_succ, List.getD_cons_zero, List.getD_cons_succ, List.length_cons, List.length_nil, List.nodup_nil, Option.some.injEq, Cell.dat.injEq, Cell.own.injEq, Cont.lst.injEq, D.bl.injEq, D.int.injEq, D.str.injEq, D.tup.injEq, D.lst.injEq, Arg.d.injEq, List.cons.injEq, exists_and_left, exists_and_right, exists_eq_left', exists_eq_left, exists_eq_right, exists_eq_right', exists_eq, exists_eq', and_true, true_and, and_assoc, and_self, exists_const, reduceCtorEq, web_wE, web_pE, webD_inj]
    simpa using hq
theorem ok_is_fraction (T : Txt K mg) : FnOk P w K mg base (L2.CX P w) 2 T.f_is_fraction T.fd_is_fraction ["thing"] (spOf K 1 (fs_is_fraction K)) := by
  refine def_ok T.F_is_fraction sc_is_fraction (wb := w_is_fraction K) pure_is_fraction ?_
  intro cdv A outer s H E hr tk
  exact ⟨_, (pss_cons (ps_if (pt_not (pt_val (pe_callS (ok_is_tuple_of T) (hr.mono (by decide)) rfl T.g_is_tuple_of T.k_is_tuple_of T.b_is_tuple_of (fun σ => passAt tk σ) (pa_cons pe_int (pa_cons pe_int (pa_cons (pv 0) pa_nil))))))
        (pss_one (ps_ret pe_bl))
        pss_nil)
      (pss_cons (ps_asg (pv 0) (pg_tup (by rfl) (pgs_cons (pg_name (i := 1) sc_is_fraction.nd rfl (by first | exact Or.inl rfl | exact Or.inr rfl)) (pgs_cons (pg_name (i := 2) sc_is_fraction.nd rfl (by first | exact Or.inl rfl | exact Or.inr rfl)) pgs_nil))))
      (pss_one (ps_ret (pe_and (pe_callS (ok_is_integer T) (hr.mono (by decide)) rfl T.g_is_integer T.k_is_integer T.b_is_integer (fun σ => passAt tk σ) (pa_cons (pv 1) pa_nil)) (pe_and (pe_callS (ok_is_integer T) (hr.mono (by decide)) rfl T.g_is_integer T.k_is_integer T.b_is_integer (fun σ => passAt tk σ) (pa_cons (pv 2) pa_nil)) (pe_and (pe_cmpR op_ge (pv 2) pe_int (nomark _)) (pe_one (pe_cmpR op_eq (pe_callBfun cr_gcd (by rfl) T.m_gcd (pa_cons (pv 1) (pa_cons (pv 2) pa_nil))) pe_int (nomark _)))))))))),
    (ds_seq (ds_if (dt_not (dt_B (de_call (n := 3) (fs := fs_is_tuple_of K) (dac_cons de_int (dac_cons de_int (dac_cons (de_var 0) dac_nil)))))) (ds_ret de_bl) ds_nil)
      (ds_seq (ds_asg (de_var 0) (dg_tup (n := 2) (dgs_cons (dg_name 1) (dgs_cons (dg_name 2) dgs_nil))))
      (ds_ret (de_and (de_call (n := 1) (fs := fs_is_integer K) (dac_cons (de_var 1) dac_nil)) (de_and (de_call (n := 1) (fs := fs_is_integer K) (dac_cons (de_var 2) dac_nil)) (de_and (de_op o_ge (de_var 2) de_int) (de_op o_eq (de_cb o_gcd (da_cons (de_var 1) (da_cons (de_var 2) da_nil))) de_int)))))))⟩
abbrev s_at_most : Stmt := topS 6
theorem sc_at_most : FnScope ["one", "other"] ["one", "other"] (defScope s_at_most) := ⟨rfl, rfl, rfl, by decide +kernel, rfl, by decide +kernel, by decide +kernel⟩
def w_at_most (K : PySem.W.Frag) : SW := (wRet (wOp gLeI (wOp gMulA (wOp gIx (wVar 0) (wC (.int 0))) (wOp gIx (wVar 1) (wC (.int 1)))) (wOp gMulA (wOp gIx (wVar 1) (wC (.int 0))) (wOp gIx (wVar 0) (wC (.int 1))))))
def fs_at_most (K : PySem.W.Frag) : FS := fun cs q _ => ∃ a b c d : Int, cs = [.dat (.tup [.int a, .int b]), .dat (.tup [.int c, .int d])] ∧ CMulA a d ∧ CMulA c b ∧ q (.bl (decide (a * d ≤ c * b))) cs
theorem pure_at_most : PureD 2 0 (fs_at_most K) (w_at_most K) := by
  rintro cs q e - ⟨a, b, c, d, rfl, h1, h2, hq⟩
  simp only [w_at_most, atI0, atI1, wPeekR, wTor, wSor, wXor, gNotInL, wAugVC, wRetOwnG, wRetSortFr, wExtend, gMaxT, gMinT, wAppendB, gRepT1, wFrzD, dcOf, wKeys, wDGet, wDIn, wDkNew, wDtNew, wDlNew, wLate, wPopAt, wIsiT, wRepOwn, gRepL, wAugSOwn, wListRgOwn, wZipK3, gRepT, wCountB, wIndexB, wIsiOwn, wPeekL, wCallFr, wStar, wSortSet, wTryAs, wIsE, offE, wListRg1, wListRg2, wRngDown, wZipK, gInL, gNotInT, wCatOwn, gIsB, gNotB, D.adr.injEq, Cont.pool.injEq, ixN31, ne_eq, List.map_cons, List.map_nil, wPoolOpen, wPoolClose, wPop0, wPopTo, wListOwn, wRemove, wRaise0, wRaise1, wAugOwn, wEnumL, wTru, wSlA, gCatA, gLtT, gLeT, wFrz, wChain3, wAttr, wMkF, wEnumT, wRevT, wDict0, wDict1, numD3, Nat.reduceAdd, atI0, atI1, atI2, atI3, atI4, ixN51, ixN52, ixN53, List.length_map, wNever, scal, V.int.injEq, V.str.injEq, V.bl.injEq, wSq, wNext, wBreak, wCont, wDrop, wRet, wRetN, wIfS, wAsg, wPar, wLstOwn, wAppend, wSetOwn, wIxOwn, wPeek, wRetOwn, wRetFr, wFor, wB, wNot, wAnd, wOr, wAndV, wOrV, wNotV, wIf, wChain, wNil, wCons, wCB, wTup, wLst, wNoPart, wPart, wSlT, wSlL, wSeq, wRng1, wRng2, wZip, wName, wNilT, wConsT, wTupT, wYes, wNeg, wVar, wC, wOp, wcNil, wcCons, wcOwn, wCall, wCallOwn, slots, cellsOf, OwnArgs, putBack, g2I, g2IC, gLen, gAbs, gGcd, gInt1, gTupleOf, gListOf, gIx, gCatT, gCat, gEq, gNe, gIsN, gNotN, scD, seqD_t, seqD_l, seqD_f, isNonD, List.nodup_cons, List.mem_cons, List.not_mem_nil, or_false, not_false_eq_true, Nat.reduceEqDiff, L3.Keeps, ends, wipeD, List.replicate, List.cons_append, List.nil_append, List.append_nil, List.getElem?_cons_zero, List.getElem?_cons_succ, List.set_cons_zero, List.set_cons_succ, List.getD_cons_zero, List.getD_cons_succ, List.length_cons, List.length_nil, List.nodup_nil, Option.some.injEq, Cell.dat.injEq, Cell.own.injEq, Cont.lst.injEq, D.bl.injEq, D.int.injEq, D.str.injEq, D.tup.injEq, D.lst.injEq, Arg.d.injEq, List.cons.injEq, exists_and_left, exists_and_right, exists_eq_left', exists_eq_left, exists_eq_right, exists_eq_right', exists_eq, exists_eq', and_true, true_and, and_assoc, and_self, exists_const, reduceCtorEq, web_wE, web_pE, webD_inj]
  exact ⟨h1, h2, hq⟩
theorem ok_at_most (T : Txt K mg) : FnOk P w K mg base (L2.CX P w) 1 T.f_at_most T.fd_at_most ["one", "other"] (spOf K 2 (fs_at_most K)) := by
  refine def_ok T.F_at_most sc_at_most (wb := w_at_most K) pure_at_most ?_
  intro cdv A outer s H E hr tk
  exact ⟨_, (pss_one (ps_ret (pe_cmpR op_le (pe_op op_mulA (pe_ix ix_seq (pv 0) pe_int (fun _ _ => rfl)) (pe_ix ix_seq (pv 1) pe_int (fun _ _ => rfl))) (pe_op op_mulA (pe_ix ix_seq (pv 1) pe_int (fun _ _ => rfl)) (pe_ix ix_seq (pv 0) pe_int (fun _ _ => rfl))) (nomark _)))),
    (ds_ret (de_op o_le (de_op o_mulA (de_op o_ix (de_var 0) de_int) (de_op o_ix (de_var 1) de_int)) (de_op o_mulA (de_op o_ix (de_var 1) de_int) (de_op o_ix (de_var 0) de_int))))⟩
abbrev s_is_threshold : Stmt := topS 16
theorem sc_is_threshold : FnScope ["thing"] ["thing"] (defScope s_is_threshold) := ⟨rfl, rfl, rfl, by decide +kernel, rfl, by decide +kernel, by decide +kernel⟩
def w_is_threshold (K : PySem.W.Frag) : SW := (wRet (wAndV (wCall 1 (fs_is_fraction K) (wcCons (wVar 0) wcNil)) (wAndV (wChain gLeI gLeI (wC (.int 1)) (wOp gIx (wVar 0) (wC (.int 0))) (wC (.int 1000000))) (wOp gLeI (wOp gIx (wVar 0) (wC (.int 1))) (wC (.int 144))))))
def isTh : D → Bool | .tup [.int t, .int b] => isFr (.tup [.int t, .int b]) && decide (1 ≤ t) && decide (t ≤ 1000000) && decide (b ≤ 144) | _ => false
def fs_is_threshold (K : PySem.W.Frag) : FS := fun cs q _ => ∃ d, cs = [.dat d] ∧ OkD K d ∧ q (.bl (isTh d)) [.dat d]
theorem fr_shape {d : D} (h : isFr d = true) : ∃ t b, d = .tup [.int t, .int b] := by
  cases d with
  | tup ds =>
    match ds with
    | [] => simp [isFr] at h
    | [x] => cases x <;> simp [isFr] at h
    | [x, y] => cases x <;> cases y <;> simp [isFr] at h; exact ⟨_, _, rfl⟩
    | x :: y :: z :: r => cases x <;> cases y <;> simp [isFr] at h
  | _ => simp [isFr] at h
theorem th_fr {d : D} (h : isFr d = false) : isTh d = false := by
  cases d with
  | tup ds =>
    match ds with
    | [] => rfl
    | [x] => cases x <;> rfl
    | [x, y] => cases x <;> cases y <;> simp_all [isTh]
    | x :: y :: z :: r => cases x <;> cases y <;> rfl
  | _ => rfl
theorem pure_is_threshold : PureD 1 0 (fs_is_threshold K) (w_is_threshold K) := by
  rintro cs q e - ⟨d, rfl, hd, hq⟩
  by_cases h : isFr d = true
  · obtain ⟨t, b, rfl⟩ := fr_shape h
    have e1 : isTh (.tup [.int t, .int b]) = (decide (1 ≤ t) && decide (t ≤ 1000000) && decide (b ≤ 144)) := by simp only [isTh, h, Bool.true_and]
    rw [e1] at hq
    simp only [w_is_threshold, fs_is_fraction, h, hd, atI0, atI1, wPeekR, wTor, wSor, wXor, gNotInL, wAugVC, wRetOwnG, wRetSortFr, wExtend, gMaxT, gMinT, wAppendB, gRepT1, wFrzD, dcOf, wKeys, wDGet, wDIn, wDkNew, wDtNew, wDlNew, wLate, wPopAt, wIsiT, wRepOwn, gRepL, wAugSOwn, wListRgOwn, wZipK3, gRepT, wCountB, wIndexB, wIsiOwn, wPeekL, wCallFr, wStar, wSortSet, wTryAs, wIsE, offE, wListRg1, wListRg2, wRngDown, wZipK, gInL, gNotInT, wCatOwn, gIsB, gNotB, D.adr.injEq, Cont.pool.injEq, ixN31, ne_eq, List.map_cons, List.map_nil, wPoolOpen, wPoolClose, wPop0, wPopTo, wListOwn, wRemove, wRaise0, wRaise1, wAugOwn, wEnumL, wTru, wSlA, gCatA, gLtT, gLeT, wFrz, wChain3, wAttr, wMkF, wEnumT, wRevT, wDict0, wDict1, numD3, Nat.reduceAdd, atI0, atI1, atI2, atI3, atI4, ixN51, ixN52, ixN53, List.length_map, wNever, scal, V.int.injEq, V.str.injEq, V.bl.injEq, wSq, wNext, wBreak, wCont, wDrop, wRet, wRetN, wIfS, wAsg, wPar, wLstOwn, wAppend, wSetOwn, wIxOwn, wPeek, wRetOwn, wRetFr, wFor, wB, wNot, wAnd, wOr, wAndV, wOrV, wNotV, wIf, wChain, wNil, wCons, wCB, wTup, wLst, wNoPart, wPart, wSlT, wSlL, wSeq, wRng1, wRng2, wZip, wName, wNilT, wConsT, wTupT, wYes, wNeg, wVar, wC, wOp, wcNil, wcCons, wcOwn, wCall, wCallOwn, slots, cellsOf, OwnArgs, putBack, g2I, g2IC, gLen, gAbs, gGcd, gInt1, gTupleOf, gListOf, gIx, gCatT, gCat, gEq, gNe, gIsN, gNotN, scD, seqD_t, seqD_l, seqD_f, isNonD, List.nodup_cons, List.mem_cons, List.not_mem_nil, or_false, not_false_eq_true, Nat.reduceEqDiff, L3.Keeps, ends, wipeD, List.replicate, List.cons_append, List.nil_append, List.append_nil, List.getElem?_cons_zero, List.getElem?_cons_succ, List.set_cons_zero, List.set_cons_succ, List.getD_cons_zero, List.getD_cons_succ, List.length_cons, List.length_nil, List.nodup_nil, Option.some.injEq, Cell.dat.injEq, Cell.own.injEq, Cont.lst.injEq, D.bl.injEq, D.int.injEq, D.str.injEq, D.tup.injEq, D.lst.injEq, Arg.d.injEq, List.cons.injEq, exists_and_left, exists_and_right, exists_eq_left', exists_eq_left, exists_eq_right, exists_eq_right', exists_eq, exists_eq', and_true, true_and, and_assoc, and_self, exists_const, reduceCtorEq, web_wE, web_pE, webD_inj]
    by_cases h1 : 1 ≤ t <;> by_cases h2 : t ≤ 1000000 <;> by_cases h3 : b ≤ 144 <;> simp [h1, h2, h3] at hq ⊢ <;> exact hq
  · have h : isFr d = false := by simpa using h
    rw [th_fr h] at hq
    simp only [w_is_threshold, fs_is_fraction, h, hd, wPeekR, wTor, wSor, wXor, gNotInL, wAugVC, wRetOwnG, wRetSortFr, wExtend, gMaxT, gMinT, wAppendB, gRepT1, wFrzD, dcOf, wKeys, wDGet, wDIn, wDkNew, wDtNew, wDlNew, wLate, wPopAt, wIsiT, wRepOwn, gRepL, wAugSOwn, wListRgOwn, wZipK3, gRepT, wCountB, wIndexB, wIsiOwn, wPeekL, wCallFr, wStar, wSortSet, wTryAs, wIsE, offE, wListRg1, wListRg2, wRngDown, wZipK, gInL, gNotInT, wCatOwn, gIsB, gNotB, D.adr.injEq, Cont.pool.injEq, ixN31, ne_eq, List.map_cons, List.map_nil, wPoolOpen, wPoolClose, wPop0, wPopTo, wListOwn, wRemove, wRaise0, wRaise1, wAugOwn, wEnumL, wTru, wSlA, gCatA, gLtT, gLeT, wFrz, wChain3, wAttr, wMkF, wEnumT, wRevT, wDict0, wDict1, numD3, Nat.reduceAdd, atI0, atI1, atI2, atI3, atI4, ixN51, ixN52, ixN53, List.length_map, wNever, scal, V.int.injEq, V.str.injEq, V.bl.injEq, wSq, wNext, wBreak, wCont, wDrop, wRet, wRetN, wIfS, wAsg, wPar, wLstOwn, wAppend, wSetOwn, wIxOwn, wPeek, wRetOwn, wRetFr, wFor, wB, wNot, wAnd, wOr, wAndV, wOrV, wNotV, wIf, wChain, wNil, wCons, wCB, wTup, wLst, wNoPart, wPart, wSlT, wSlL, wSeq, wRng1, wRng2, wZip, wName, wNilT, wConsT, wTupT, wYes, wNeg, wVar, wC, wOp, wcNil, wcCons, wcOwn, wCall, wCallOwn, slots, cellsOf, OwnArgs, putBack, g2I, g2IC, gLen, gAbs, gGcd, gInt1, gTupleOf, gListOf, gIx, gCatT, gCat, gEq, gNe, gIsN, gNotN, scD, seqD_t, seqD_l, seqD_f, isNonD, List.nodup_cons, List.mem_cons, List.not_mem_nil, or_false, not_false_eq_true, Nat.reduceEqDiff, L3.Keeps, ends, wipeD, List.replicate, List.cons_append, List.nil_append, List.append_nil, List.getElem?_cons_zero, List.getElem?_cons_succ, List.set_cons_zero, List.set_cons_succ, List.getD_cons_zero, List.getD_cons_succ, List.length_cons, List.length_nil, List.nodup_nil, Option.some.injEq, Cell.dat.injEq, Cell.own.injEq, Cont.lst.injEq, D.bl.injEq, D.int.injEq, D.str.injEq, D.tup.injEq, D.lst.injEq, Arg.d.injEq, List.cons.injEq, exists_and_left, exists_and_right, exists_eq_left', exists_eq_left, exists_eq_right, exists_eq_right', exists_eq, exists_eq', and_true, true_and, and_assoc, and_self, exists_const, reduceCtorEq, web_wE, web_pE, webD_inj]
    simp_all
theorem ok_is_threshold (T : Txt K mg) : FnOk P w K mg base (L2.CX P w) 3 T.f_is_threshold T.fd_is_threshold ["thing"] (spOf K 1 (fs_is_threshold K)) := by
  refine def_ok T.F_is_threshold sc_is_threshold (wb := w_is_threshold K) pure_is_threshold ?_
  intro cdv A outer s H E hr tk
  exact ⟨_, (pss_one (ps_ret (pe_and (pe_callS (ok_is_fraction T) (hr.mono (by decide)) rfl T.g_is_fraction T.k_is_fraction T.b_is_fraction (fun σ => passAt tk σ) (pa_cons (pv 0) pa_nil)) (pe_and (pe_chain op_le op_le pe_int (pe_ix ix_seq (pv 0) pe_int (fun _ _ => rfl)) (pe_glob (v := .int 1000000) rfl T.c_MOST_TOP ⟨_, rfl⟩)) (pe_one (pe_cmpR op_le (pe_ix ix_seq (pv 0) pe_int (fun _ _ => rfl)) (pe_glob (v := .int 144) rfl T.c_MOST_BOTTOM ⟨_, rfl⟩) (nomark _))))))),
    (ds_ret (de_and (de_call (n := 1) (fs := fs_is_fraction K) (dac_cons (de_var 0) dac_nil)) (de_and (de_chain o_le o_le de_int (de_op o_ix (de_var 0) de_int) de_int) (de_op o_le (de_op o_ix (de_var 0) de_int) de_int))))⟩
abbrev s_is_list : Stmt := topS 17
theorem sc_is_list : FnScope ["thing", "threshold", "low", "high"] ["thing"] (defScope s_is_list) := ⟨rfl, rfl, rfl, by decide +kernel, rfl, by decide +kernel, by decide +kernel⟩
def c1_is_list (K : PySem.W.Frag) : EW := wLc (wSeq (wVar 0)) (wName 1) wYes (wCall 1 (fs_is_threshold K) (wcCons (wVar 1) wcNil)) [1]
def c2_is_list (K : PySem.W.Frag) : EW := wLc (wZip (wCons (wVar 0) (wCons (wSlA (wVar 0) (wPart (wC (.int 1))) wNoPart) wNil))) (wTupT 2 (wConsT (wName 2) (wConsT (wName 3) wNilT))) wYes (wCall 2 (fs_at_most K) (wcCons (wVar 2) (wcCons (wVar 3) wcNil))) [2, 3]
def w_is_list (K : PySem.W.Frag) : SW := (wSq (wIfS (wNot (wB (wCall 3 (fs_is_tuple_of K) (wcCons (wC (.int 1)) (wcCons (wC (.int 6)) (wcCons (wVar 0) wcNil)))))) (wRet (wC (.bl false))) wNext)
  (wSq (wIfS (wNot (wB (wCB gAll (wCons (c1_is_list K) wNil)))) (wRet (wC (.bl false))) wNext)
  (wRet (wCB gAll (wCons (c2_is_list K) wNil)))))
def leP : D → Bool | .tup [.tup [.int a, .int b], .tup [.int c, .int d]] => decide (a * d ≤ c * b) | _ => false
def ascP (ds : List D) : Bool := (zipD ds (ds.drop 1)).all leP
def isLi : D → Bool | .tup ds => isTupOf 1 6 (.tup ds) && ds.all isTh && ascP ds | _ => false
def fs_is_list (K : PySem.W.Frag) : FS := fun cs q _ => ∃ d, cs = [.dat d] ∧ OkD K d ∧ q (.bl (isLi d)) [.dat d]
theorem filter_true {α : Type} {l : List α} : l.filter (fun _ => true) = l := by simp
theorem th_shape {d : D} (h : isTh d = true) : ∃ t b, d = .tup [.int t, .int b] ∧ 1 ≤ b ∧ b ≤ 144 ∧ 1 ≤ t ∧ t ≤ 1000000 := by
  cases h2 : isFr d with
  | false => rw [th_fr h2] at h; cases h
  | true =>
    obtain ⟨t, b, rfl⟩ := fr_shape h2
    simp [isTh, isFr] at h
    exact ⟨t, b, rfl, by omega, by omega, by omega, by omega⟩
theorem c1_is_list_ok {ds : List D} {c2 c3 c4 : Cell} {q : D → List Cell → Prop} {e : Xn → List Cell → Prop} (hd : OkD K (.tup ds)) (hn : ds.length ≤ 1000)
    (hq : q (.lst (ds.map fun d => .bl (isTh d))) [.dat (.tup ds), .any, c3, c4]) : c1_is_list K [.dat (.tup ds), c2, c3, c4] q e := by
  unfold c1_is_list wLc
  refine ⟨_, rfl, ds, rfl, lc_fm (fun d => .bl (isTh d)) (fun _ => true) hn (fun d hm k1 k2 h1 _ => ?_) (by rw [filter_true]; exact hq)⟩
  simp only [fs_is_threshold, okTup hd hm, wPeekR, wTor, wSor, wXor, gNotInL, wAugVC, wRetOwnG, wRetSortFr, wExtend, gMaxT, gMinT, wAppendB, gRepT1, wFrzD, dcOf, wKeys, wDGet, wDIn, wDkNew, wDtNew, wDlNew, wLate, wPopAt, wIsiT, wRepOwn, gRepL, wAugSOwn, wListRgOwn, wZipK3, gRepT, wCountB, wIndexB, wIsiOwn, wPeekL, wCallFr, wStar, wSortSet, wTryAs, wIsE, offE, wListRg1, wListRg2, wRngDown, wZipK, gInL, gNotInT, wCatOwn, gIsB, gNotB, D.adr.injEq, Cont.pool.injEq, ixN31, ne_eq, List.map_cons, List.map_nil, wPoolOpen, wPoolClose, wPop0, wPopTo, wListOwn, wRemove, wRaise0, wRaise1, wAugOwn, wEnumL, wTru, wSlA, gCatA, gLtT, gLeT, wFrz, wChain3, wAttr, wMkF, wEnumT, wRevT, wDict0, wDict1, numD3, Nat.reduceAdd, atI0, atI1, atI2, atI3, atI4, ixN51, ixN52, ixN53, List.length_map, wNever, scal, V.int.injEq, V.str.injEq, V.bl.injEq, wSq, wNext, wBreak, wCont, wDrop, wRet, wRetN, wIfS, wAsg, wPar, wLstOwn, wAppend, wSetOwn, wIxOwn, wPeek, wRetOwn, wRetFr, wFor, wB, wNot, wAnd, wOr, wAndV, wOrV, wNotV, wIf, wChain, wNil, wCons, wCB, wTup, wLst, wNoPart, wPart, wSlT, wSlL, wSeq, wRng1, wRng2, wZip, wName, wNilT, wConsT, wTupT, wYes, wNeg, wVar, wC, wOp, wcNil, wcCons, wcOwn, wCall, wCallOwn, slots, cellsOf, OwnArgs, putBack, g2I, g2IC, gLen, gAbs, gGcd, gInt1, gTupleOf, gListOf, gIx, gCatT, gCat, gEq, gNe, gIsN, gNotN, scD, seqD_t, seqD_l, seqD_f, isNonD, List.nodup_cons, List.mem_cons, List.not_mem_nil, or_false, not_false_eq_true, Nat.reduceEqDiff, L3.Keeps, ends, wipeD, List.replicate, List.cons_append, List.nil_append, List.append_nil, List.getElem?_cons_zero, List.getElem?_cons_succ, List.set_cons_zero, List.set_cons_succ, List.getD_cons_zero, List.getD_cons_succ, List.length_cons, List.length_nil, List.nodup_nil, Option.some.injEq, Cell.dat.injEq, Cell.own.injEq, Cont.lst.injEq, D.bl.injEq, D.int.injEq, D.str.injEq, D.tup.injEq, D.lst.injEq, Arg.d.injEq, List.cons.injEq, exists_and_left, exists_and_right, exists_eq_left', exists_eq_left, exists_eq_right, exists_eq_right', exists_eq, exists_eq', and_true, true_and, and_assoc, and_self, exists_const, reduceCtorEq, web_wE, web_pE, webD_inj]
  simp only [true_implies]
  refine ⟨h1 rfl _ rfl, fun z => nomatch z⟩
theorem sIx1 (n : Nat) : HT.sIx n 0 (some 1) = min 1 n := HT.sIx_nat n 0 1
theorem cutD1 {ds : List D} : cutDs ds (some 1) none = ds.drop 1 := by
  unfold cutDs
  rw [sIx1, HT.sIx_none]
  cases ds with
  | nil => rfl
  | cons x r =>
    have : min 1 (x :: r).length = 1 := by simp only [List.length_cons]; omega
    rw [this]
    exact List.take_of_length_le (by simp)
theorem cut_some {ds : List D} (h : 1 ≤ ds.length) : ¬ (HT.sIx ds.length 0 (some 1) = 0 ∧ HT.sIx ds.length ds.length none = ds.length) := fun ⟨z, _⟩ => by
  rw [sIx1] at z
  omega
theorem zip_mem {xs ys : List D} {d : D} (h : d ∈ zipD xs ys) : ∃ x y, x ∈ xs ∧ y ∈ ys ∧ d = .tup [x, y] := by
  unfold zipD at h
  obtain ⟨i, hi, e⟩ := List.getElem_of_mem h
  rw [List.getElem_zipWith] at e
  exact ⟨_, _, List.getElem_mem _, List.getElem_mem _, e.symm⟩
theorem c2_is_list_ok {ds : List D} {c2 c3 c4 : Cell} {q : D → List Cell → Prop} {e : Xn → List Cell → Prop} (h1 : 1 ≤ ds.length) (hn : ds.length ≤ 1000) (ht : ∀ d ∈ ds, isTh d = true)
    (hq : q (.lst ((zipD ds (ds.drop 1)).map fun d => .bl (leP d))) [.dat (.tup ds), c2, .any, .any]) : c2_is_list K [.dat (.tup ds), c2, c3, c4] q e := by
  unfold c2_is_list wLc
  refine ⟨_, rfl, _, rfl, 1, rfl, ds, rfl, ds, ds.drop 1, .inl (by rw [cutD1]), lc_fm (fun d => .bl (leP d)) (fun _ => true) ?_ (fun d hm k1 k2 h1 _ => ?_) (by rw [filter_true]; exact hq)⟩
  · unfold zipD
    rw [List.length_zipWith]
    omega
  · obtain ⟨x, y, hx, hy, rfl⟩ := zip_mem hm
    obtain ⟨a, b, rfl, b1, b2, b3, b4⟩ := th_shape (ht x hx)
    obtain ⟨c, d, rfl, d1, d2, d3, d4⟩ := th_shape (ht y (List.mem_of_mem_drop hy))
    simp only [fs_at_most, wPeekR, wTor, wSor, wXor, gNotInL, wAugVC, wRetOwnG, wRetSortFr, wExtend, gMaxT, gMinT, wAppendB, gRepT1, wFrzD, dcOf, wKeys, wDGet, wDIn, wDkNew, wDtNew, wDlNew, wLate, wPopAt, wIsiT, wRepOwn, gRepL, wAugSOwn, wListRgOwn, wZipK3, gRepT, wCountB, wIndexB, wIsiOwn, wPeekL, wCallFr, wStar, wSortSet, wTryAs, wIsE, offE, wListRg1, wListRg2, wRngDown, wZipK, gInL, gNotInT, wCatOwn, gIsB, gNotB, D.adr.injEq, Cont.pool.injEq, ixN31, ne_eq, List.map_cons, List.map_nil, wPoolOpen, wPoolClose, wPop0, wPopTo, wListOwn, wRemove, wRaise0, wRaise1, wAugOwn, wEnumL, wTru, wSlA, gCatA, gLtT, gLeT, wFrz, wChain3, wAttr, wMkF, wEnumT, wRevT, wDict0, wDict1, numD3, Nat.reduceAdd, atI0, atI1, atI2, atI3, atI4, ixN51, ixN52, ixN53, List.length_map, wNever, scal, V.int.injEq, V.str.injEq, V.bl.injEq, wSq, wNext, wBreak, wCont, wDrop, wRet, wRetN, wIfS, wAsg, wPar, wLstOwn, wAppend, wSetOwn, wIxOwn, wPeek, wRetOwn, wRetFr, wFor, wB, wNot, wAnd, wOr, wAndV, wOrV, wNotV, wIf, wChain, wNil, wCons, wCB, wTup, wLst, wNoPart, wPart, wSlT, wSlL, wSeq, wRng1, wRng2, wZip, wName, wNilT, wConsT, wTupT, wYes, wNeg, wVar, wC, wOp, wcNil, wcCons, wcOwn, wCall, wCallOwn, slots, cellsOf, OwnArgs, putBack, g2I, g2IC, gLen, gAbs, gGcd, gInt1, gTupleOf, gListOf, gIx, gCatT, gCat, gEq, gNe, gIsN, gNotN, scD, seqD_t, seqD_l, seqD_f, isNonD, List.nodup_cons, List.mem_cons, List.not_mem_nil, or_false, not_false_eq_true, Nat.reduceEqDiff, L3.Keeps, ends, wipeD, List.replicate, List.cons_append, List.nil_append, List.append_nil, List.getElem?_cons_zero, List.getElem?_cons_succ, List.set_cons_zero, List.set_cons_succ, List.getD_cons_zero, List.getD_cons_succ, List.length_cons, List.length_nil, List.nodup_nil, Option.some.injEq, Cell.dat.injEq, Cell.own.injEq, Cont.lst.injEq, D.bl.injEq, D.int.injEq, D.str.injEq, D.tup.injEq, D.lst.injEq, Arg.d.injEq, List.cons.injEq, exists_and_left, exists_and_right, exists_eq_left', exists_eq_left, exists_eq_right, exists_eq_right', exists_eq, exists_eq', and_true, true_and, and_assoc, and_self, exists_const, reduceCtorEq, web_wE, web_pE, webD_inj]
    simp only [true_implies]
    exact ⟨⟨cmul_r (by omega) (by omega), cmul_r (by omega) (by omega), h1 rfl _ rfl⟩, fun z => z.elim⟩
theorem all_map {α : Type} {l : List α} {f : α → Bool} : (l.map f).all id = l.all f := by simp
theorem gAll_map {α : Type} {l : List α} {f : α → Bool} {q : D → Prop} (h : q (.bl (l.all f))) : gAll [.lst (l.map fun d => .bl (f d))] q :=
  ⟨_, l.map f, .inl rfl, by simp, by rw [all_map]; exact h⟩
theorem pure_is_list : PureD 1 3 (fs_is_list K) (w_is_list K) := by
  rintro cs q e - ⟨d, rfl, hd, hq⟩
  cases h : isTupOf 1 6 d with
  | false =>
    have e1 : isLi d = false := by cases d <;> simp_all [isLi]
    rw [e1] at hq
    simp only [w_is_list, fs_is_tuple_of, h, hd, wPeekR, wTor, wSor, wXor, gNotInL, wAugVC, wRetOwnG, wRetSortFr, wExtend, gMaxT, gMinT, wAppendB, gRepT1, wFrzD, dcOf, wKeys, wDGet, wDIn, wDkNew, wDtNew, wDlNew, wLate, wPopAt, wIsiT, wRepOwn, gRepL, wAugSOwn, wListRgOwn, wZipK3, gRepT, wCountB, wIndexB, wIsiOwn, wPeekL, wCallFr, wStar, wSortSet, wTryAs, wIsE, offE, wListRg1, wListRg2, wRngDown, wZipK, gInL, gNotInT, wCatOwn, gIsB, gNotB, D.adr.injEq, Cont.pool.injEq, ixN31, ne_eq, List.map_cons, List.map_nil, wPoolOpen, wPoolClose, wPop0, wPopTo, wListOwn, wRemove, wRaise0, wRaise1, wAugOwn, wEnumL, wTru, wSlA, gCatA, gLtT, gLeT, wFrz, wChain3, wAttr, wMkF, wEnumT, wRevT, wDict0, wDict1, numD3, Nat.reduceAdd, atI0, atI1, atI2, atI3, atI4, ixN51, ixN52, ixN53, List.length_map, wNever, scal, V.int.injEq, V.str.injEq, V.bl.injEq, wSq, wNext, wBreak, wCont, wDrop, wRet, wRetN, wIfS, wAsg, wPar, wLstOwn, wAppend, wSetOwn, wIxOwn, wPeek, wRetOwn, wRetFr, wFor, wB, wNot, wAnd, wOr, wAndV, wOrV, wNotV, wIf, wChain, wNil, wCons, wCB, wTup, wLst, wNoPart, wPart, wSlT, wSlL, wSeq, wRng1, wRng2, wZip, wName, wNilT, wConsT, wTupT, wYes, wNeg, wVar, wC, wOp, wcNil, wcCons, wcOwn, wCall, wCallOwn, slots, cellsOf, OwnArgs, putBack, g2I, g2IC, gLen, gAbs, gGcd, gInt1, gTupleOf, gListOf, gIx, gCatT, gCat, gEq, gNe, gIsN, gNotN, scD, seqD_t, seqD_l, seqD_f, isNonD, List.nodup_cons, List.mem_cons, List.not_mem_nil, or_false, not_false_eq_true, Nat.reduceEqDiff, L3.Keeps, ends, wipeD, List.replicate, List.cons_append, List.nil_append, List.append_nil, List.getElem?_cons_zero, List.getElem?_cons_succ, List.set_cons_zero, List.set_cons_succ, List.getD_cons_zero, List.getD_cons_succ, List.length_cons, List.length_nil, List.nodup_nil, Option.some.injEq, Cell.dat.injEq, Cell.own.injEq, Cont.lst.injEq, D.bl.injEq, D.int.injEq, D.str.injEq, D.tup.injEq, D.lst.injEq, Arg.d.injEq, List.cons.injEq, exists_and_left, exists_and_right, exists_eq_left', exists_eq_left, exists_eq_right, exists_eq_right', exists_eq, exists_eq', and_true, true_and, and_assoc, and_self, exists_const, reduceCtorEq, web_wE, web_pE, webD_inj]
    simp_all
  | true =>
    cases d <;> simp [isTupOf] at h
    rename_i ds
    have h' : isTupOf 1 6 (.tup ds) = true := by simp [isTupOf]; omega
    simp only [w_is_list, fs_is_tuple_of, h', hd, wPeekR, wTor, wSor, wXor, gNotInL, wAugVC, wRetOwnG, wRetSortFr, wExtend, gMaxT, gMinT, wAppendB, gRepT1, wFrzD, dcOf, wKeys, wDGet, wDIn, wDkNew, wDtNew, wDlNew, wLate, wPopAt, wIsiT, wRepOwn, gRepL, wAugSOwn, wListRgOwn, wZipK3, gRepT, wCountB, wIndexB, wIsiOwn, wPeekL, wCallFr, wStar, wSortSet, wTryAs, wIsE, offE, wListRg1, wListRg2, wRngDown, wZipK, gInL, gNotInT, wCatOwn, gIsB, gNotB, D.adr.injEq, Cont.pool.injEq, ixN31, ne_eq, List.map_cons, List.map_nil, wPoolOpen, wPoolClose, wPop0, wPopTo, wListOwn, wRemove, wRaise0, wRaise1, wAugOwn, wEnumL, wTru, wSlA, gCatA, gLtT, gLeT, wFrz, wChain3, wAttr, wMkF, wEnumT, wRevT, wDict0, wDict1, numD3, Nat.reduceAdd, atI0, atI1, atI2, atI3, atI4, ixN51, ixN52, ixN53, List.length_map, wNever, scal, V.int.injEq, V.str.injEq, V.bl.injEq, wSq, wNext, wBreak, wCont, wDrop, wRet, wRetN, wIfS, wAsg, wPar, wLstOwn, wAppend, wSetOwn, wIxOwn, wPeek, wRetOwn, wRetFr, wFor, wB, wNot, wAnd, wOr, wAndV, wOrV, wNotV, wIf, wChain, wNil, wCons, wCB, wTup, wLst, wNoPart, wPart, wSlT, wSlL, wSeq, wRng1, wRng2, wZip, wName, wNilT, wConsT, wTupT, wYes, wNeg, wVar, wC, wOp, wcNil, wcCons, wcOwn, wCall, wCallOwn, slots, cellsOf, OwnArgs, putBack, g2I, g2IC, gLen, gAbs, gGcd, gInt1, gTupleOf, gListOf, gIx, gCatT, gCat, gEq, gNe, gIsN, gNotN, scD, seqD_t, seqD_l, seqD_f, isNonD, List.nodup_cons, List.mem_cons, List.not_mem_nil, or_false, not_false_eq_true, Nat.reduceEqDiff, L3.Keeps, ends, wipeD, List.replicate, List.cons_append, List.nil_append, List.append_nil, List.getElem?_cons_zero, List.getElem?_cons_succ, List.set_cons_zero, List.set_cons_succ, List.getD_cons_zero, List.getD_cons_succ, List.length_cons, List.length_nil, List.nodup_nil, Option.some.injEq, Cell.dat.injEq, Cell.own.injEq, Cont.lst.injEq, D.bl.injEq, D.int.injEq, D.str.injEq, D.tup.injEq, D.lst.injEq, Arg.d.injEq, List.cons.injEq, exists_and_left, exists_and_right, exists_eq_left', exists_eq_left, exists_eq_right, exists_eq_right', exists_eq, exists_eq', and_true, true_and, and_assoc, and_self, exists_const, reduceCtorEq, web_wE, web_pE, webD_inj]
    simp only [Bool.not_true, Bool.false_eq_true, false_implies, true_implies, true_and]
    refine c1_is_list_ok hd (by omega) (gAll_map ?_)
    cases ht : ds.all isTh with
    | false =>
      have e1 : isLi (.tup ds) = false := by simp only [isLi, h', ht]; rfl
      rw [e1] at hq
      simp only [wPeekR, wTor, wSor, wXor, gNotInL, wAugVC, wRetOwnG, wRetSortFr, wExtend, gMaxT, gMinT, wAppendB, gRepT1, wFrzD, dcOf, wKeys, wDGet, wDIn, wDkNew, wDtNew, wDlNew, wLate, wPopAt, wIsiT, wRepOwn, gRepL, wAugSOwn, wListRgOwn, wZipK3, gRepT, wCountB, wIndexB, wIsiOwn, wPeekL, wCallFr, wStar, wSortSet, wTryAs, wIsE, offE, wListRg1, wListRg2, wRngDown, wZipK, gInL, gNotInT, wCatOwn, gIsB, gNotB, D.adr.injEq, Cont.pool.injEq, ixN31, ne_eq, List.map_cons, List.map_nil, wPoolOpen, wPoolClose, wPop0, wPopTo, wListOwn, wRemove, wRaise0, wRaise1, wAugOwn, wEnumL, wTru, wSlA, gCatA, gLtT, gLeT, wFrz, wChain3, wAttr, wMkF, wEnumT, wRevT, wDict0, wDict1, numD3, Nat.reduceAdd, atI0, atI1, atI2, atI3, atI4, ixN51, ixN52, ixN53, List.length_map, wNever, scal, V.int.injEq, V.str.injEq, V.bl.injEq, wSq, wNext, wBreak, wCont, wDrop, wRet, wRetN, wIfS, wAsg, wPar, wLstOwn, wAppend, wSetOwn, wIxOwn, wPeek, wRetOwn, wRetFr, wFor, wB, wNot, wAnd, wOr, wAndV, wOrV, wNotV, wIf, wChain, wNil, wCons, wCB, wTup, wLst, wNoPart, wPart, wSlT, wSlL, wSeq, wRng1, wRng2, wZip, wName, wNilT, wConsT, wTupT, wYes, wNeg, wVar, wC, wOp, wcNil, wcCons, wcOwn, wCall, wCallOwn, slots, cellsOf, OwnArgs, putBack, g2I, g2IC, gLen, gAbs, gGcd, gInt1, gTupleOf, gListOf, gIx, gCatT, gCat, gEq, gNe, gIsN, gNotN, scD, seqD_t, seqD_l, seqD_f, isNonD, List.nodup_cons, List.mem_cons, List.not_mem_nil, or_false, not_false_eq_true, Nat.reduceEqDiff, L3.Keeps, ends, wipeD, List.replicate, List.cons_append, List.nil_append, List.append_nil, List.getElem?_cons_zero, List.getElem?_cons_succ, List.set_cons_zero, List.set_cons_succ, List.getD_cons_zero, List.getD_cons_succ, List.length_cons, List.length_nil, List.nodup_nil, Option.some.injEq, Cell.dat.injEq, Cell.own.injEq, Cont.lst.injEq, D.bl.injEq, D.int.injEq, D.str.injEq, D.tup.injEq, D.lst.injEq, Arg.d.injEq, List.cons.injEq, exists_and_left, exists_and_right, exists_eq_left', exists_eq_left, exists_eq_right, exists_eq_right', exists_eq, exists_eq', and_true, true_and, and_assoc, and_self, exists_const, reduceCtorEq, web_wE, web_pE, webD_inj]
      simp_all
    | true =>
      have e1 : isLi (.tup ds) = ascP ds := by simp only [isLi, h', ht]; rfl
      rw [e1] at hq
      simp only [wPeekR, wTor, wSor, wXor, gNotInL, wAugVC, wRetOwnG, wRetSortFr, wExtend, gMaxT, gMinT, wAppendB, gRepT1, wFrzD, dcOf, wKeys, wDGet, wDIn, wDkNew, wDtNew, wDlNew, wLate, wPopAt, wIsiT, wRepOwn, gRepL, wAugSOwn, wListRgOwn, wZipK3, gRepT, wCountB, wIndexB, wIsiOwn, wPeekL, wCallFr, wStar, wSortSet, wTryAs, wIsE, offE, wListRg1, wListRg2, wRngDown, wZipK, gInL, gNotInT, wCatOwn, gIsB, gNotB, D.adr.injEq, Cont.pool.injEq, ixN31, ne_eq, List.map_cons, List.map_nil, wPoolOpen, wPoolClose, wPop0, wPopTo, wListOwn, wRemove, wRaise0, wRaise1, wAugOwn, wEnumL, wTru, wSlA, gCatA, gLtT, gLeT, wFrz, wChain3, wAttr, wMkF, wEnumT, wRevT, wDict0, wDict1, numD3, Nat.reduceAdd, atI0, atI1, atI2, atI3, atI4, ixN51, ixN52, ixN53, List.length_map, wNever, scal, V.int.injEq, V.str.injEq, V.bl.injEq, wSq, wNext, wBreak, wCont, wDrop, wRet, wRetN, wIfS, wAsg, wPar, wLstOwn, wAppend, wSetOwn, wIxOwn, wPeek, wRetOwn, wRetFr, wFor, wB, wNot, wAnd, wOr, wAndV, wOrV, wNotV, wIf, wChain, wNil, wCons, wCB, wTup, wLst, wNoPart, wPart, wSlT, wSlL, wSeq, wRng1, wRng2, wZip, wName, wNilT, wConsT, wTupT, wYes, wNeg, wVar, wC, wOp, wcNil, wcCons, wcOwn, wCall, wCallOwn, slots, cellsOf, OwnArgs, putBack, g2I, g2IC, gLen, gAbs, gGcd, gInt1, gTupleOf, gListOf, gIx, gCatT, gCat, gEq, gNe, gIsN, gNotN, scD, seqD_t, seqD_l, seqD_f, isNonD, List.nodup_cons, List.mem_cons, List.not_mem_nil, or_false, not_false_eq_true, Nat.reduceEqDiff, L3.Keeps, ends, wipeD, List.replicate, List.cons_append, List.nil_append, List.append_nil, List.getElem?_cons_zero, List.getElem?_cons_succ, List.set_cons_zero, List.set_cons_succ, List.getD_cons_zero, List.getD_cons_succ, List.length_cons, List.length_nil, List.nodup_nil, Option.some.injEq, Cell.dat.injEq, Cell.own.injEq, Cont.lst.injEq, D.bl.injEq, D.int.injEq, D.str.injEq, D.tup.injEq, D.lst.injEq, Arg.d.injEq, List.cons.injEq, exists_and_left, exists_and_right, exists_eq_left', exists_eq_left, exists_eq_right, exists_eq_right', exists_eq, exists_eq', and_true, true_and, and_assoc, and_self, exists_const, reduceCtorEq, web_wE, web_pE, webD_inj]
      simp only [Bool.not_true, Bool.false_eq_true, false_implies, true_implies, true_and]
      refine c2_is_list_ok (by omega) (by omega) (by simpa using ht) (gAll_map ?_)
      simp only [wPeekR, wTor, wSor, wXor, gNotInL, wAugVC, wRetOwnG, wRetSortFr, wExtend, gMaxT, gMinT, wAppendB, gRepT1, wFrzD, dcOf, wKeys, wDGet, wDIn, wDkNew, wDtNew, wDlNew, wLate, wPopAt, wIsiT, wRepOwn, gRepL, wAugSOwn, wListRgOwn, wZipK3, gRepT, wCountB, wIndexB, wIsiOwn, wPeekL, wCallFr, wStar, wSortSet, wTryAs, wIsE, offE, wListRg1, wListRg2, wRngDown, wZipK, gInL, gNotInT, wCatOwn, gIsB, gNotB, D.adr.injEq, Cont.pool.injEq, ixN31, ne_eq, List.map_cons, List.map_nil, wPoolOpen, wPoolClose, wPop0, wPopTo, wListOwn, wRemove, wRaise0, wRaise1, wAugOwn, wEnumL, wTru, wSlA, gCatA, gLtT, gLeT, wFrz, wChain3, wAttr, wMkF, wEnumT, wRevT, wDict0, wDict1, numD3, Nat.reduceAdd, atI0, atI1, atI2, atI3, atI4, ixN51, ixN52, ixN53, List.length_map, wNever, scal, V.int.injEq, V.str.injEq, V.bl.injEq, wSq, wNext, wBreak, wCont, wDrop, wRet, wRetN, wIfS, wAsg, wPar, wLstOwn, wAppend, wSetOwn, wIxOwn, wPeek, wRetOwn, wRetFr, wFor, wB, wNot, wAnd, wOr, wAndV, wOrV, wNotV, wIf, wChain, wNil, wCons, wCB, wTup, wLst, wNoPart, wPart, wSlT, wSlL, wSeq, wRng1, wRng2, wZip, wName, wNilT, wConsT, wTupT, wYes, wNeg, wVar, wC, wOp, wcNil, wcCons, wcOwn, wCall, wCallOwn, slots, cellsOf, OwnArgs, putBack, g2I, g2IC, gLen, gAbs, gGcd, gInt1, gTupleOf, gListOf, gIx, gCatT, gCat, gEq, gNe, gIsN, gNotN, scD, seqD_t, seqD_l, seqD_f, isNonD, List.nodup_cons, List.mem_cons, List.not_mem_nil, or_false, not_false_eq_true, Nat.reduceEqDiff, L3.Keeps, ends, wipeD, List.replicate, List.cons_append, List.nil_append, List.append_nil, List.getElem?_cons_zero, List.getElem?_cons_succ, List.set_cons_zero, List.set_cons_succ, List.getD_cons_zero, List.getD_cons_succ, List.length_cons, List.length_nil, List.nodup_nil, Option.some.injEq, Cell.dat.injEq, Cell.own.injEq, Cont.lst.injEq, D.bl.injEq, D.int.injEq, D.str.injEq, D.tup.injEq, D.lst.injEq, Arg.d.injEq, List.cons.injEq, exists_and_left, exists_and_right, exists_eq_left', exists_eq_left, exists_eq_right, exists_eq_right', exists_eq, exists_eq', and_true, true_and, and_assoc, and_self, exists_const, reduceCtorEq, web_wE, web_pE, webD_inj]
      exact hq
theorem li_shape {d : D} (h : isLi d = true) : ∃ ds, d = .tup ds ∧ 1 ≤ ds.length ∧ ds.length ≤ 6 ∧ ∀ x ∈ ds, isTh x = true := by
  cases d <;> simp [isLi] at h
  obtain ⟨⟨h1, h2⟩, h3⟩ := h
  simp [isTupOf] at h1
  exact ⟨_, rfl, by omega, by omega, by simpa using h2⟩
theorem ok_is_list (T : Txt K mg) : FnOk P w K mg base (L2.CX P w) 4 T.f_is_list T.fd_is_list ["thing"] (spOf K 1 (fs_is_list K)) := by
  refine def_ok T.F_is_list sc_is_list (wb := w_is_list K) pure_is_list ?_
  intro cdv A outer s H E hr tk
  exact ⟨_, (pss_cons (ps_if (pt_not (pt_val (pe_callS (ok_is_tuple_of T) (hr.mono (by decide)) rfl T.g_is_tuple_of T.k_is_tuple_of T.b_is_tuple_of (fun σ => passAt tk σ) (pa_cons pe_int (pa_cons (pe_glob (v := .int 6) rfl T.c_MOST_THRESHOLDS ⟨_, rfl⟩) (pa_cons (pv 0) pa_nil))))))
        (pss_one (ps_ret pe_bl))
        pss_nil)
      (pss_cons (ps_if (pt_not (pt_val (pe_callB (cr_all (by rfl)) (by rfl) T.z_all (by decide +kernel) (pa_cons (pe_lc (own := [("threshold", 1)]) (g := (gName 1)) (tt := tYes) (te := (tCallS (spOf K 1 (fs_is_threshold K)) (L2.WE W0) (tCons (tVar 1) tNil))) rfl sc_is_list.nd (pi_seq (pv 0)) (blkOk_by (N := ["thing", "threshold", "low", "high"]) (sc := defScope s_is_list) (by decide +kernel)) (fun _ _ _ _ _ => (pg_name (i := 1) sc_is_list.nd rfl (by first | exact Or.inl rfl | exact Or.inr rfl))) (fun _ _ _ _ _ => pts_nil) (fun _ _ _ _ _ => (pe_callS (ok_is_threshold T) (hr.mono (by decide)) rfl T.g_is_threshold T.k_is_threshold T.b_is_threshold (fun σ => passAt L2.takes0 σ) (pa_cons (pv 1) pa_nil)))) pa_nil))))
        (pss_one (ps_ret pe_bl))
        pss_nil)
      (pss_one (ps_ret (pe_callB (cr_all (by rfl)) (by rfl) T.z_all (by decide +kernel) (pa_cons (pe_lc (own := [("low", 2), ("high", 3)]) (g := (gTup K 2 (gCons (gName 2) (gCons (gName 3) gNil)))) (tt := tYes) (te := (tCallS (spOf K 2 (fs_at_most K)) (L2.WE W0) (tCons (tVar 2) (tCons (tVar 3) tNil)))) rfl sc_is_list.nd (RZ.pi_zipA (by rfl) T.z_zip (pa_cons (pv 0) (pa_cons (pe_slice sl_tupA (pv 0) (po_some pe_int) po_none) pa_nil))) (blkOk_by (N := ["thing", "threshold", "low", "high"]) (sc := defScope s_is_list) (by decide +kernel)) (fun _ _ _ _ _ => (pg_tup (by rfl) (pgs_cons (pg_name (i := 2) sc_is_list.nd rfl (by first | exact Or.inl rfl | exact Or.inr rfl)) (pgs_cons (pg_name (i := 3) sc_is_list.nd rfl (by first | exact Or.inl rfl | exact Or.inr rfl)) pgs_nil)))) (fun _ _ _ _ _ => pts_nil) (fun _ _ _ _ _ => (pe_callS (ok_at_most T) (hr.mono (by decide)) rfl T.g_at_most T.k_at_most T.b_at_most (fun σ => passAt L2.takes0 σ) (pa_cons (pv 2) (pa_cons (pv 3) pa_nil))))) pa_nil)))))),
    (ds_seq (ds_if (dt_not (dt_B (de_call (n := 3) (fs := fs_is_tuple_of K) (dac_cons de_int (dac_cons de_int (dac_cons (de_var 0) dac_nil)))))) (ds_ret de_bl) ds_nil)
      (ds_seq (ds_if (dt_not (dt_B (de_cb o_all (da_cons (de_lc (vs := [1]) (wI := (wSeq (wVar 0))) (wg := (wName 1)) (wt := wYes) (we := (wCall 1 (fs_is_threshold K) (wcCons (wVar 1) wcNil))) (di_seq (de_var 0)) (dg_name 1) dt_yes (de_call (n := 1) (fs := fs_is_threshold K) (dac_cons (de_var 1) dac_nil)) (by decide)) da_nil)))) (ds_ret de_bl) ds_nil)
      (ds_ret (de_cb o_all (da_cons (de_lc (vs := [2, 3]) (wI := (wZip (wCons (wVar 0) (wCons (wSlA (wVar 0) (wPart (wC (.int 1))) wNoPart) wNil)))) (wg := (wTupT 2 (wConsT (wName 2) (wConsT (wName 3) wNilT)))) (wt := wYes) (we := (wCall 2 (fs_at_most K) (wcCons (wVar 2) (wcCons (wVar 3) wcNil)))) (di_zip (da_cons (de_var 0) (da_cons (de_slA (de_var 0) (do_part de_int) do_no) da_nil))) (dg_tup (n := 2) (dgs_cons (dg_name 2) (dgs_cons (dg_name 3) dgs_nil))) dt_yes (de_call (n := 2) (fs := fs_at_most K) (dac_cons (de_var 2) (dac_cons (de_var 3) dac_nil))) (by decide)) da_nil)))))⟩
abbrev s_is_width : Stmt := topS 18
theorem sc_is_width : FnScope ["thing"] ["thing"] (defScope s_is_width) := ⟨rfl, rfl, rfl, by decide +kernel, rfl, by decide +kernel, by decide +kernel⟩
def w_is_width (K : PySem.W.Frag) : SW := (wRet (wCall 3 (fs_is_between K) (wcCons (wC (.int 0)) (wcCons (wC (.int 12)) (wcCons (wVar 0) wcNil)))))
def fs_is_width (K : PySem.W.Frag) : FS := fun cs q _ => ∃ d, cs = [.dat d] ∧ OkD K d ∧ q (.bl (isBetw 0 12 d)) cs
theorem pure_is_width : PureD 1 0 (fs_is_width K) (w_is_width K) := by
  rintro cs q e - ⟨d, rfl, hd, hq⟩
  simp only [w_is_width, fs_is_between, hd, wPeekR, wTor, wSor, wXor, gNotInL, wAugVC, wRetOwnG, wRetSortFr, wExtend, gMaxT, gMinT, wAppendB, gRepT1, wFrzD, dcOf, wKeys, wDGet, wDIn, wDkNew, wDtNew, wDlNew, wLate, wPopAt, wIsiT, wRepOwn, gRepL, wAugSOwn, wListRgOwn, wZipK3, gRepT, wCountB, wIndexB, wIsiOwn, wPeekL, wCallFr, wStar, wSortSet, wTryAs, wIsE, offE, wListRg1, wListRg2, wRngDown, wZipK, gInL, gNotInT, wCatOwn, gIsB, gNotB, D.adr.injEq, Cont.pool.injEq, ixN31, ne_eq, List.map_cons, List.map_nil, wPoolOpen, wPoolClose, wPop0, wPopTo, wListOwn, wRemove, wRaise0, wRaise1, wAugOwn, wEnumL, wTru, wSlA, gCatA, gLtT, gLeT, wFrz, wChain3, wAttr, wMkF, wEnumT, wRevT, wDict0, wDict1, numD3, Nat.reduceAdd, atI0, atI1, atI2, atI3, atI4, ixN51, ixN52, ixN53, List.length_map, wNever, scal, V.int.injEq, V.str.injEq, V.bl.injEq, wSq, wNext, wBreak, wCont, wDrop, wRet, wRetN, wIfS, wAsg, wPar, wLstOwn, wAppend, wSetOwn, wIxOwn, wPeek, wRetOwn, wRetFr, wFor, wB, wNot, wAnd, wOr, wAndV, wOrV, wNotV, wIf, wChain, wNil, wCons, wCB, wTup, wLst, wNoPart, wPart, wSlT, wSlL, wSeq, wRng1, wRng2, wZip, wName, wNilT, wConsT, wTupT, wYes, wNeg, wVar, wC, wOp, wcNil, wcCons, wcOwn, wCall, wCallOwn, slots, cellsOf, OwnArgs, putBack, g2I, g2IC, gLen, gAbs, gGcd, gInt1, gTupleOf, gListOf, gIx, gCatT, gCat, gEq, gNe, gIsN, gNotN, scD, seqD_t, seqD_l, seqD_f, isNonD, List.nodup_cons, List.mem_cons, List.not_mem_nil, or_false, not_false_eq_true, Nat.reduceEqDiff, L3.Keeps, ends, wipeD, List.replicate, List.cons_append, List.nil_append, List.append_nil, List.getElem?_cons_zero, List.getElem?_cons_succ, List.set_cons_zero, List.set_cons_succ, List.getD_cons_zero, List.getD_cons_succ, List.length_cons, List.length_nil, List.nodup_nil, Option.some.injEq, Cell.dat.injEq, Cell.own.injEq, Cont.lst.injEq, D.bl.injEq, D.int.injEq, D.str.injEq, D.tup.injEq, D.lst.injEq, Arg.d.injEq, List.cons.injEq, exists_and_left, exists_and_right, exists_eq_left', exists_eq_left, exists_eq_right, exists_eq_right', exists_eq, exists_eq', and_true, true_and, and_assoc, and_self, exists_const, reduceCtorEq, web_wE, web_pE, webD_inj]
  exact hq
theorem ok_is_width (T : Txt K mg) : FnOk P w K mg base (L2.CX P w) 3 T.f_is_width T.fd_is_width ["thing"] (spOf K 1 (fs_is_width K)) := by
  refine def_ok T.F_is_width sc_is_width (wb := w_is_width K) pure_is_width ?_
  intro cdv A outer s H E hr tk
  exact ⟨_, (pss_one (ps_ret (pe_callS (ok_is_between T) (hr.mono (by decide)) rfl T.g_is_between T.k_is_between T.b_is_between (fun σ => passAt tk σ) (pa_cons pe_int (pa_cons (pe_glob (v := .int 12) rfl T.c_MOST_WIDTH ⟨_, rfl⟩) (pa_cons (pv 0) pa_nil)))))),
    (ds_ret (de_call (n := 3) (fs := fs_is_between K) (dac_cons de_int (dac_cons de_int (dac_cons (de_var 0) dac_nil)))))⟩
abbrev s_is_widths : Stmt := topS 26
theorem sc_is_widths : FnScope ["thing", "width"] ["thing"] (defScope s_is_widths) := ⟨rfl, rfl, rfl, by decide +kernel, rfl, by decide +kernel, by decide +kernel⟩
def c1_is_widths (K : PySem.W.Frag) : EW := wLc (wSeq (wVar 0)) (wName 1) wYes (wCall 1 (fs_is_width K) (wcCons (wVar 1) wcNil)) [1]
def w_is_widths (K : PySem.W.Frag) : SW := (wRet (wAndV (wCall 3 (fs_is_tuple_of K) (wcCons (wC (.int 1)) (wcCons (wC (.int 12)) (wcCons (wVar 0) wcNil)))) (wCB gAll (wCons (c1_is_widths K) wNil))))
def isWs : D → Bool | .tup ds => isTupOf 1 12 (.tup ds) && ds.all (isBetw 0 12) | _ => false
def fs_is_widths (K : PySem.W.Frag) : FS := fun cs q _ => ∃ d, cs = [.dat d] ∧ OkD K d ∧ q (.bl (isWs d)) cs
theorem c1_is_widths_ok {ds : List D} {c2 : Cell} {q : D → List Cell → Prop} {e : Xn → List Cell → Prop} (hd : OkD K (.tup ds)) (hn : ds.length ≤ 1000)
    (hq : q (.lst (ds.map fun d => .bl (isBetw 0 12 d))) [.dat (.tup ds), .any]) : c1_is_widths K [.dat (.tup ds), c2] q e := by
  unfold c1_is_widths wLc
  refine ⟨_, rfl, ds, rfl, lc_fm (fun d => .bl (isBetw 0 12 d)) (fun _ => true) hn (fun d hm k1 k2 h1 _ => ?_) (by rw [filter_true]; exact hq)⟩
  simp only [fs_is_width, okTup hd hm, wPeekR, wTor, wSor, wXor, gNotInL, wAugVC, wRetOwnG, wRetSortFr, wExtend, gMaxT, gMinT, wAppendB, gRepT1, wFrzD, dcOf, wKeys, wDGet, wDIn, wDkNew, wDtNew, wDlNew, wLate, wPopAt, wIsiT, wRepOwn, gRepL, wAugSOwn, wListRgOwn, wZipK3, gRepT, wCountB, wIndexB, wIsiOwn, wPeekL, wCallFr, wStar, wSortSet, wTryAs, wIsE, offE, wListRg1, wListRg2, wRngDown, wZipK, gInL, gNotInT, wCatOwn, gIsB, gNotB, D.adr.injEq, Cont.pool.injEq, ixN31, ne_eq, List.map_cons, List.map_nil, wPoolOpen, wPoolClose, wPop0, wPopTo, wListOwn, wRemove, wRaise0, wRaise1, wAugOwn, wEnumL, wTru, wSlA, gCatA, gLtT, gLeT, wFrz, wChain3, wAttr, wMkF, wEnumT, wRevT, wDict0, wDict1, numD3, Nat.reduceAdd, atI0, atI1, atI2, atI3, atI4, ixN51, ixN52, ixN53, List.length_map, wNever, scal, V.int.injEq, V.str.injEq, V.bl.injEq, wSq, wNext, wBreak, wCont, wDrop, wRet, wRetN, wIfS, wAsg, wPar, wLstOwn, wAppend, wSetOwn, wIxOwn, wPeek, wRetOwn, wRetFr, wFor, wB, wNot, wAnd, wOr, wAndV, wOrV, wNotV, wIf, wChain, wNil, wCons, wCB, wTup, wLst, wNoPart, wPart, wSlT, wSlL, wSeq, wRng1, wRng2, wZip, wName, wNilT, wConsT, wTupT, wYes, wNeg, wVar, wC, wOp, wcNil, wcCons, wcOwn, wCall, wCallOwn, slots, cellsOf, OwnArgs, putBack, g2I, g2IC, gLen, gAbs, gGcd, gInt1, gTupleOf, gListOf, gIx, gCatT, gCat, gEq, gNe, gIsN, gNotN, scD, seqD_t, seqD_l, seqD_f, isNonD, List.nodup_cons, List.mem_cons, List.not_mem_nil, or_false, not_false_eq_true, Nat.reduceEqDiff, L3.Keeps, ends, wipeD, List.replicate, List.cons_append, List.nil_append, List.append_nil, List.getElem?_cons_zero, List.getElem?_cons_succ, List.set_cons_zero, List.set_cons_succ, List.getD_cons_zero, List.getD_cons_succ, List.length_cons, List.length_nil, List.nodup_nil, Option.some.injEq, Cell.dat.injEq, Cell.own.injEq, Cont.lst.injEq, D.bl.injEq, D.int.injEq, D.str.injEq, D.tup.injEq, D.lst.injEq, Arg.d.injEq, List.cons.injEq, exists_and_left, exists_and_right, exists_eq_left', exists_eq_left, exists_eq_right, exists_eq_right', exists_eq, exists_eq', and_true, true_and, and_assoc, and_self, exists_const, reduceCtorEq, web_wE, web_pE, webD_inj]
  simp only [true_implies]
  refine ⟨h1 rfl _ rfl, fun z => nomatch z⟩
theorem pure_is_widths : PureD 1 1 (fs_is_widths K) (w_is_widths K) := by
  rintro cs q e - ⟨d, rfl, hd, hq⟩
  cases h : isTupOf 1 12 d with
  | false =>
    have e1 : isWs d = false := by cases d <;> simp_all [isWs]
    rw [e1] at hq
    simp only [w_is_widths, fs_is_tuple_of, h, hd, wPeekR, wTor, wSor, wXor, gNotInL, wAugVC, wRetOwnG, wRetSortFr, wExtend, gMaxT, gMinT, wAppendB, gRepT1, wFrzD, dcOf, wKeys, wDGet, wDIn, wDkNew, wDtNew, wDlNew, wLate, wPopAt, wIsiT, wRepOwn, gRepL, wAugSOwn, wListRgOwn, wZipK3, gRepT, wCountB, wIndexB, wIsiOwn, wPeekL, wCallFr, wStar, wSortSet, wTryAs, wIsE, offE, wListRg1, wListRg2, wRngDown, wZipK, gInL, gNotInT, wCatOwn, gIsB, gNotB, D.adr.injEq, Cont.pool.injEq, ixN31, ne_eq, List.map_cons, List.map_nil, wPoolOpen, wPoolClose, wPop0, wPopTo, wListOwn, wRemove, wRaise0, wRaise1, wAugOwn, wEnumL, wTru, wSlA, gCatA, gLtT, gLeT, wFrz, wChain3, wAttr, wMkF, wEnumT, wRevT, wDict0, wDict1, numD3, Nat.reduceAdd, atI0, atI1, atI2, atI3, atI4, ixN51, ixN52, ixN53, List.length_map, wNever, scal, V.int.injEq, V.str.injEq, V.bl.injEq, wSq, wNext, wBreak, wCont, wDrop, wRet, wRetN, wIfS, wAsg, wPar, wLstOwn, wAppend, wSetOwn, wIxOwn, wPeek, wRetOwn, wRetFr, wFor, wB, wNot, wAnd, wOr, wAndV, wOrV, wNotV, wIf, wChain, wNil, wCons, wCB, wTup, wLst, wNoPart, wPart, wSlT, wSlL, wSeq, wRng1, wRng2, wZip, wName, wNilT, wConsT, wTupT, wYes, wNeg, wVar, wC, wOp, wcNil, wcCons, wcOwn, wCall, wCallOwn, slots, cellsOf, OwnArgs, putBack, g2I, g2IC, gLen, gAbs, gGcd, gInt1, gTupleOf, gListOf, gIx, gCatT, gCat, gEq, gNe, gIsN, gNotN, scD, seqD_t, seqD_l, seqD_f, isNonD, List.nodup_cons, List.mem_cons, List.not_mem_nil, or_false, not_false_eq_true, Nat.reduceEqDiff, L3.Keeps, ends, wipeD, List.replicate, List.cons_append, List.nil_append, List.append_nil, List.getElem?_cons_zero, List.getElem?_cons_succ, List.set_cons_zero, List.set_cons_succ, List.getD_cons_zero, List.getD_cons_succ, List.length_cons, List.length_nil, List.nodup_nil, Option.some.injEq, Cell.dat.injEq, Cell.own.injEq, Cont.lst.injEq, D.bl.injEq, D.int.injEq, D.str.injEq, D.tup.injEq, D.lst.injEq, Arg.d.injEq, List.cons.injEq, exists_and_left, exists_and_right, exists_eq_left', exists_eq_left, exists_eq_right, exists_eq_right', exists_eq, exists_eq', and_true, true_and, and_assoc, and_self, exists_const, reduceCtorEq, web_wE, web_pE, webD_inj]
    simp_all
  | true =>
    cases d <;> simp [isTupOf] at h
    rename_i ds
    have h' : isTupOf 1 12 (.tup ds) = true := by simp [isTupOf]; omega
    simp only [w_is_widths, fs_is_tuple_of, h', hd, wPeekR, wTor, wSor, wXor, gNotInL, wAugVC, wRetOwnG, wRetSortFr, wExtend, gMaxT, gMinT, wAppendB, gRepT1, wFrzD, dcOf, wKeys, wDGet, wDIn, wDkNew, wDtNew, wDlNew, wLate, wPopAt, wIsiT, wRepOwn, gRepL, wAugSOwn, wListRgOwn, wZipK3, gRepT, wCountB, wIndexB, wIsiOwn, wPeekL, wCallFr, wStar, wSortSet, wTryAs, wIsE, offE, wListRg1, wListRg2, wRngDown, wZipK, gInL, gNotInT, wCatOwn, gIsB, gNotB, D.adr.injEq, Cont.pool.injEq, ixN31, ne_eq, List.map_cons, List.map_nil, wPoolOpen, wPoolClose, wPop0, wPopTo, wListOwn, wRemove, wRaise0, wRaise1, wAugOwn, wEnumL, wTru, wSlA, gCatA, gLtT, gLeT, wFrz, wChain3, wAttr, wMkF, wEnumT, wRevT, wDict0, wDict1, numD3, Nat.reduceAdd, atI0, atI1, atI2, atI3, atI4, ixN51, ixN52, ixN53, List.length_map, wNever, scal, V.int.injEq, V.str.injEq, V.bl.injEq, wSq, wNext, wBreak, wCont, wDrop, wRet, wRetN, wIfS, wAsg, wPar, wLstOwn, wAppend, wSetOwn, wIxOwn, wPeek, wRetOwn, wRetFr, wFor, wB, wNot, wAnd, wOr, wAndV, wOrV, wNotV, wIf, wChain, wNil, wCons, wCB, wTup, wLst, wNoPart, wPart, wSlT, wSlL, wSeq, wRng1, wRng2, wZip, wName, wNilT, wConsT, wTupT, wYes, wNeg, wVar, wC, wOp, wcNil, wcCons, wcOwn, wCall, wCallOwn, slots, cellsOf, OwnArgs, putBack, g2I, g2IC, gLen, gAbs, gGcd, gInt1, gTupleOf, gListOf, gIx, gCatT, gCat, gEq, gNe, gIsN, gNotN, scD, seqD_t, seqD_l, seqD_f, isNonD, List.nodup_cons, List.mem_cons, List.not_mem_nil, or_false, not_false_eq_true, Nat.reduceEqDiff, L3.Keeps, ends, wipeD, List.replicate, List.cons_append, List.nil_append, List.append_nil, List.getElem?_cons_zero, List.getElem?_cons_succ, List.set_cons_zero, List.set_cons_succ, List.getD_cons_zero, List.getD_cons_succ, List.length_cons, List.length_nil, List.nodup_nil, Option.some.injEq, Cell.dat.injEq, Cell.own.injEq, Cont.lst.injEq, D.bl.injEq, D.int.injEq, D.str.injEq, D.tup.injEq, D.lst.injEq, Arg.d.injEq, List.cons.injEq, exists_and_left, exists_and_right, exists_eq_left', exists_eq_left, exists_eq_right, exists_eq_right', exists_eq, exists_eq', and_true, true_and, and_assoc, and_self, exists_const, reduceCtorEq, web_wE, web_pE, webD_inj]
    simp only [true_implies, reduceCtorEq, false_implies, and_true]
    refine c1_is_widths_ok hd (by omega) (gAll_map ?_)
    have e1 : isWs (.tup ds) = ds.all (isBetw 0 12) := by simp only [isWs, h', Bool.true_and]
    rw [e1] at hq
    simp only [wPeekR, wTor, wSor, wXor, gNotInL, wAugVC, wRetOwnG, wRetSortFr, wExtend, gMaxT, gMinT, wAppendB, gRepT1, wFrzD, dcOf, wKeys, wDGet, wDIn, wDkNew, wDtNew, wDlNew, wLate, wPopAt, wIsiT, wRepOwn, gRepL, wAugSOwn, wListRgOwn, wZipK3, gRepT, wCountB, wIndexB, wIsiOwn, wPeekL, wCallFr, wStar, wSortSet, wTryAs, wIsE, offE, wListRg1, wListRg2, wRngDown, wZipK, gInL, gNotInT, wCatOwn, gIsB, gNotB, D.adr.injEq, Cont.pool.injEq, ixN31, ne_eq, List.map_cons, List.map_nil, wPoolOpen, wPoolClose, wPop0, wPopTo, wListOwn, wRemove, wRaise0, wRaise1, wAugOwn, wEnumL, wTru, wSlA, gCatA, gLtT, gLeT, wFrz, wChain3, wAttr, wMkF, wEnumT, wRevT, wDict0, wDict1, numD3, Nat.reduceAdd, atI0, atI1, atI2, atI3, atI4, ixN51, ixN52, ixN53, List.length_map, wNever, scal, V.int.injEq, V.str.injEq, V.bl.injEq, wSq, wNext, wBreak, wCont, wDrop, wRet, wRetN, wIfS, wAsg, wPar, wLstOwn, wAppend, wSetOwn, wIxOwn, wPeek, wRetOwn, wRetFr, wFor, wB, wNot, wAnd, wOr, wAndV, wOrV, wNotV, wIf, wChain, wNil, wCons, wCB, wTup, wLst, wNoPart, wPart, wSlT, wSlL, wSeq, wRng1, wRng2, wZip, wName, wNilT, wConsT, wTupT, wYes, wNeg, wVar, wC, wOp, wcNil, wcCons, wcOwn, wCall, wCallOwn, slots, cellsOf, OwnArgs, putBack, g2I, g2IC, gLen, gAbs, gGcd, gInt1, gTupleOf, gListOf, gIx, gCatT, gCat, gEq, gNe, gIsN, gNotN, scD, seqD_t, seqD_l, seqD_f, isNonD, List.nodup_cons, List.mem_cons, List.not_mem_nil, or_false, not_false_eq_true, Nat.reduceEqDiff, L3.Keeps, ends, wipeD, List.replicate, List.cons_append, List.nil_append, List.append_nil, List.getElem?_cons_zero, List.getElem?_cons_succ, List.set_cons_zero, List.set_cons_succ, List.getD_cons_zero, List.getD_cons_succ, List.length_cons, List.length_nil, List.nodup_nil, Option.some.injEq, Cell.dat.injEq, Cell.own.injEq, Cont.lst.injEq, D.bl.injEq, D.int.injEq, D.str.injEq, D.tup.injEq, D.lst.injEq, Arg.d.injEq, List.cons.injEq, exists_and_left, exists_and_right, exists_eq_left', exists_eq_left, exists_eq_right, exists_eq_right', exists_eq, exists_eq', and_true, true_and, and_assoc, and_self, exists_const, reduceCtorEq, web_wE, web_pE, webD_inj]
    exact hq
theorem ok_is_widths (T : Txt K mg) : FnOk P w K mg base (L2.CX P w) 4 T.f_is_widths T.fd_is_widths ["thing"] (spOf K 1 (fs_is_widths K)) := by
  refine def_ok T.F_is_widths sc_is_widths (wb := w_is_widths K) pure_is_widths ?_
  intro cdv A outer s H E hr tk
  exact ⟨_, (pss_one (ps_ret (pe_and (pe_callS (ok_is_tuple_of T) (hr.mono (by decide)) rfl T.g_is_tuple_of T.k_is_tuple_of T.b_is_tuple_of (fun σ => passAt tk σ) (pa_cons pe_int (pa_cons (pe_glob (v := .int 12) rfl T.c_MOST_VESSELS ⟨_, rfl⟩) (pa_cons (pv 0) pa_nil)))) (pe_one (pe_callB (cr_all (by rfl)) (by rfl) T.z_all (by decide +kernel) (pa_cons (pe_lc (own := [("width", 1)]) (g := (gName 1)) (tt := tYes) (te := (tCallS (spOf K 1 (fs_is_width K)) (L2.WE W0) (tCons (tVar 1) tNil))) rfl sc_is_widths.nd (pi_seq (pv 0)) (blkOk_by (N := ["thing", "width"]) (sc := defScope s_is_widths) (by decide +kernel)) (fun _ _ _ _ _ => (pg_name (i := 1) sc_is_widths.nd rfl (by first | exact Or.inl rfl | exact Or.inr rfl))) (fun _ _ _ _ _ => pts_nil) (fun _ _ _ _ _ => (pe_callS (ok_is_width T) (hr.mono (by decide)) rfl T.g_is_width T.k_is_width T.b_is_width (fun σ => passAt L2.takes0 σ) (pa_cons (pv 1) pa_nil)))) pa_nil)))))),
    (ds_ret (de_and (de_call (n := 3) (fs := fs_is_tuple_of K) (dac_cons de_int (dac_cons de_int (dac_cons (de_var 0) dac_nil)))) (de_cb o_all (da_cons (de_lc (vs := [1]) (wI := (wSeq (wVar 0))) (wg := (wName 1)) (wt := wYes) (we := (wCall 1 (fs_is_width K) (wcCons (wVar 1) wcNil))) (di_seq (de_var 0)) (dg_name 1) dt_yes (de_call (n := 1) (fs := fs_is_width K) (dac_cons (de_var 1) dac_nil)) (by decide)) da_nil))))⟩
abbrev s_is_pipe : Stmt := topS 27
theorem sc_is_pipe : FnScope ["vessels", "thing", "one", "other", "thresholds"] ["vessels", "thing"] (defScope s_is_pipe) := ⟨rfl, rfl, rfl, by decide +kernel, rfl, by decide +kernel, by decide +kernel⟩
def w_is_pipe (K : PySem.W.Frag) : SW := (wSq (wIfS (wNot (wB (wCall 3 (fs_is_tuple_of K) (wcCons (wC (.int 3)) (wcCons (wC (.int 3)) (wcCons (wVar 1) wcNil)))))) (wRet (wC (.bl false))) wNext)
  (wSq (wAsg (wVar 1) (wTupT 3 (wConsT (wName 2) (wConsT (wName 3) (wConsT (wName 4) wNilT)))))
  (wRet (wAndV (wCall 3 (fs_is_between K) (wcCons (wC (.int 0)) (wcCons (wOp gSubI (wVar 0) (wC (.int 1))) (wcCons (wVar 3) wcNil)))) (wAndV (wCall 3 (fs_is_between K) (wcCons (wC (.int 0)) (wcCons (wOp gSubI (wVar 3) (wC (.int 1))) (wcCons (wVar 2) wcNil)))) (wCall 1 (fs_is_list K) (wcCons (wVar 4) wcNil)))))))
def isPi (v : Int) : D → Bool | .tup [a, .int b, l] => isBetw 0 (v - 1) (.int b) && isBetw 0 (b - 1) a && isLi l | _ => false
def fs_is_pipe (K : PySem.W.Frag) : FS := fun cs q _ => ∃ (v : Int) (d : D), cs = [.dat (.int v), .dat d] ∧ OkD K d ∧ q (.bl (isPi v d)) cs
theorem tup_three {d : D} (h : isTupOf 3 3 d = true) : ∃ x y z, d = .tup [x, y, z] := by
  cases d <;> simp [isTupOf] at h
  rename_i ds
  match ds, h with
  | [], h => simp at h
  | [x], h => simp at h
  | [x, y], h => simp at h
  | [x, y, z], _ => exact ⟨x, y, z, rfl⟩
  | x :: y :: z :: u :: r, h => simp at h; omega
theorem pi_not_three {v : Int} {d : D} (h : isTupOf 3 3 d = false) : isPi v d = false := by
  cases d with
  | tup ds =>
    match ds with
    | [] => rfl
    | [x] => cases x <;> rfl
    | [x, y] => cases x <;> cases y <;> rfl
    | [x, y, z] => simp [isTupOf] at h
    | x :: y :: z :: u :: r => cases x <;> cases y <;> rfl
  | _ => rfl
theorem pure_is_pipe : PureD 2 3 (fs_is_pipe K) (w_is_pipe K) := by
  rintro cs q e - ⟨v, d, rfl, hd, hq⟩
  cases h : isTupOf 3 3 d with
  | false =>
    rw [pi_not_three h] at hq
    simp only [w_is_pipe, fs_is_tuple_of, h, hd, wPeekR, wTor, wSor, wXor, gNotInL, wAugVC, wRetOwnG, wRetSortFr, wExtend, gMaxT, gMinT, wAppendB, gRepT1, wFrzD, dcOf, wKeys, wDGet, wDIn, wDkNew, wDtNew, wDlNew, wLate, wPopAt, wIsiT, wRepOwn, gRepL, wAugSOwn, wListRgOwn, wZipK3, gRepT, wCountB, wIndexB, wIsiOwn, wPeekL, wCallFr, wStar, wSortSet, wTryAs, wIsE, offE, wListRg1, wListRg2, wRngDown, wZipK, gInL, gNotInT, wCatOwn, gIsB, gNotB, D.adr.injEq, Cont.pool.injEq, ixN31, ne_eq, List.map_cons, List.map_nil, wPoolOpen, wPoolClose, wPop0, wPopTo, wListOwn, wRemove, wRaise0, wRaise1, wAugOwn, wEnumL, wTru, wSlA, gCatA, gLtT, gLeT, wFrz, wChain3, wAttr, wMkF, wEnumT, wRevT, wDict0, wDict1, numD3, Nat.reduceAdd, atI0, atI1, atI2, atI3, atI4, ixN51, ixN52, ixN53, List.length_map, wNever, scal, V.int.injEq, V.str.injEq, V.bl.injEq, wSq, wNext, wBreak, wCont, wDrop, wRet, wRetN, wIfS, wAsg, wPar, wLstOwn, wAppend, wSetOwn, wIxOwn, wPeek, wRetOwn, wRetFr, wFor, wB, wNot, wAnd, wOr, wAndV, wOrV, wNotV, wIf, wChain, wNil, wCons, wCB, wTup, wLst, wNoPart, wPart, wSlT, wSlL, wSeq, wRng1, wRng2, wZip, wName, wNilT, wConsT, wTupT, wYes, wNeg, wVar, wC, wOp, wcNil, wcCons, wcOwn, wCall, wCallOwn, slots, cellsOf, OwnArgs, putBack, g2I, g2IC, gLen, gAbs, gGcd, gInt1, gTupleOf, gListOf, gIx, gCatT, gCat, gEq, gNe, gIsN, gNotN, scD, seqD_t, seqD_l, seqD_f, isNonD, List.nodup_cons, List.mem_cons, List.not_mem_nil, or_false, not_false_eq_true, Nat.reduceEqDiff, L3.Keeps, ends, wipeD, List.replicate, List.cons_append, List.nil_append, List.append_nil, List.getElem?_cons_zero, List.getElem?_cons_succ, List.set_cons_zero, List.set_cons_succ, List.getD_cons_zero, List.getD_cons_succ, List.length_cons, List.length_nil, List.nodup_nil, Option.some.injEq, Cell.dat.injEq, Cell.own.injEq, Cont.lst.injEq, D.bl.injEq, D.int.injEq, D.str.injEq, D.tup.injEq, D.lst.injEq, Arg.d.injEq, List.cons.injEq, exists_and_left, exists_and_right, exists_eq_left', exists_eq_left, exists_eq_right, exists_eq_right', exists_eq, exists_eq', and_true, true_and, and_assoc, and_self, exists_const, reduceCtorEq, web_wE, web_pE, webD_inj]
    simpa using hq
  | true =>
    obtain ⟨a, b, l, rfl⟩ := tup_three h
    have ha := okTup hd (d := a) (by simp)
    have hb := okTup hd (d := b) (by simp)
    have hl := okTup hd (d := l) (by simp)
    simp only [w_is_pipe, fs_is_tuple_of, fs_is_between, fs_is_list, h, hd, ha, hb, hl, wPeekR, wTor, wSor, wXor, gNotInL, wAugVC, wRetOwnG, wRetSortFr, wExtend, gMaxT, gMinT, wAppendB, gRepT1, wFrzD, dcOf, wKeys, wDGet, wDIn, wDkNew, wDtNew, wDlNew, wLate, wPopAt, wIsiT, wRepOwn, gRepL, wAugSOwn, wListRgOwn, wZipK3, gRepT, wCountB, wIndexB, wIsiOwn, wPeekL, wCallFr, wStar, wSortSet, wTryAs, wIsE, offE, wListRg1, wListRg2, wRngDown, wZipK, gInL, gNotInT, wCatOwn, gIsB, gNotB, D.adr.injEq, Cont.pool.injEq, ixN31, ne_eq, List.map_cons, List.map_nil, wPoolOpen, wPoolClose, wPop0, wPopTo, wListOwn, wRemove, wRaise0, wRaise1, wAugOwn, wEnumL, wTru, wSlA, gCatA, gLtT, gLeT, wFrz, wChain3, wAttr, wMkF, wEnumT, wRevT, wDict0, wDict1, numD3, Nat.reduceAdd, atI0, atI1, atI2, atI3, atI4, ixN51, ixN52, ixN53, List.length_map, wNever, scal, V.int.injEq, V.str.injEq, V.bl.injEq, wSq, wNext, wBreak, wCont, wDrop, wRet, wRetN, wIfS, wAsg, wPar, wLstOwn, wAppend, wSetOwn, wIxOwn, wPeek, wRetOwn, wRetFr, wFor, wB, wNot, wAnd, wOr, wAndV, wOrV, wNotV, wIf, wChain, wNil, wCons, wCB, wTup, wLst, wNoPart, wPart, wSlT, wSlL, wSeq, wRng1, wRng2, wZip, wName, wNilT, wConsT, wTupT, wYes, wNeg, wVar, wC, wOp, wcNil, wcCons, wcOwn, wCall, wCallOwn, slots, cellsOf, OwnArgs, putBack, g2I, g2IC, gLen, gAbs, gGcd, gInt1, gTupleOf, gListOf, gIx, gCatT, gCat, gEq, gNe, gIsN, gNotN, scD, seqD_t, seqD_l, seqD_f, isNonD, List.nodup_cons, List.mem_cons, List.not_mem_nil, or_false, not_false_eq_true, Nat.reduceEqDiff, L3.Keeps, ends, wipeD, List.replicate, List.cons_append, List.nil_append, List.append_nil, List.getElem?_cons_zero, List.getElem?_cons_succ, List.set_cons_zero, List.set_cons_succ, List.getD_cons_zero, List.getD_cons_succ, List.length_cons, List.length_nil, List.nodup_nil, Option.some.injEq, Cell.dat.injEq, Cell.own.injEq, Cont.lst.injEq, D.bl.injEq, D.int.injEq, D.str.injEq, D.tup.injEq, D.lst.injEq, Arg.d.injEq, List.cons.injEq, exists_and_left, exists_and_right, exists_eq_left', exists_eq_left, exists_eq_right, exists_eq_right', exists_eq, exists_eq', and_true, true_and, and_assoc, and_self, exists_const, reduceCtorEq, web_wE, web_pE, webD_inj]
    simp only [Bool.not_true, Bool.false_eq_true, false_implies, true_implies, true_and]
    cases e1 : isBetw 0 (v - 1) b with
    | false =>
      have e2 : isPi v (.tup [a, b, l]) = false := by
        cases b <;> simp [isPi]
        intro z
        rw [e1] at z; cases z
      rw [e2] at hq
      simpa using hq
    | true =>
      obtain ⟨i, rfl, _, _⟩ := betw_int e1
      have e2 : isPi v (.tup [a, .int i, l]) = (isBetw 0 (i - 1) a && isLi l) := by simp only [isPi, e1, Bool.true_and]
      rw [e2] at hq
      simp only [D.int.injEq, exists_eq_left', true_implies, reduceCtorEq, false_implies, and_true]
      cases e3 : isBetw 0 (i - 1) a with
      | false => rw [e3] at hq; simpa using hq
      | true => rw [e3] at hq; simpa using hq
theorem ok_is_pipe (T : Txt K mg) : FnOk P w K mg base (L2.CX P w) 5 T.f_is_pipe T.fd_is_pipe ["vessels", "thing"] (spOf K 2 (fs_is_pipe K)) := by
  refine def_ok T.F_is_pipe sc_is_pipe (wb := w_is_pipe K) pure_is_pipe ?_
  intro cdv A outer s H E hr tk
  exact ⟨_, (pss_cons (ps_if (pt_not (pt_val (pe_callS (ok_is_tuple_of T) (hr.mono (by decide)) rfl T.g_is_tuple_of T.k_is_tuple_of T.b_is_tuple_of (fun σ => passAt tk σ) (pa_cons pe_int (pa_cons pe_int (pa_cons (pv 1) pa_nil))))))
        (pss_one (ps_ret pe_bl))
        pss_nil)
      (pss_cons (ps_asg (pv 1) (pg_tup (by rfl) (pgs_cons (pg_name (i := 2) sc_is_pipe.nd rfl (by first | exact Or.inl rfl | exact Or.inr rfl)) (pgs_cons (pg_name (i := 3) sc_is_pipe.nd rfl (by first | exact Or.inl rfl | exact Or.inr rfl)) (pgs_cons (pg_name (i := 4) sc_is_pipe.nd rfl (by first | exact Or.inl rfl | exact Or.inr rfl)) pgs_nil)))))
      (pss_one (ps_ret (pe_and (pe_callS (ok_is_between T) (hr.mono (by decide)) rfl T.g_is_between T.k_is_between T.b_is_between (fun σ => passAt tk σ) (pa_cons pe_int (pa_cons (pe_op op_sub (pv 0) pe_int) (pa_cons (pv 3) pa_nil)))) (pe_and (pe_callS (ok_is_between T) (hr.mono (by decide)) rfl T.g_is_between T.k_is_between T.b_is_between (fun σ => passAt tk σ) (pa_cons pe_int (pa_cons (pe_op op_sub (pv 3) pe_int) (pa_cons (pv 2) pa_nil)))) (pe_one (pe_callS (ok_is_list T) (hr.mono (by decide)) rfl T.g_is_list T.k_is_list T.b_is_list (fun σ => passAt tk σ) (pa_cons (pv 4) pa_nil))))))))),
    (ds_seq (ds_if (dt_not (dt_B (de_call (n := 3) (fs := fs_is_tuple_of K) (dac_cons de_int (dac_cons de_int (dac_cons (de_var 1) dac_nil)))))) (ds_ret de_bl) ds_nil)
      (ds_seq (ds_asg (de_var 1) (dg_tup (n := 3) (dgs_cons (dg_name 2) (dgs_cons (dg_name 3) (dgs_cons (dg_name 4) dgs_nil)))))
      (ds_ret (de_and (de_call (n := 3) (fs := fs_is_between K) (dac_cons de_int (dac_cons (de_op o_sub (de_var 0) de_int) (dac_cons (de_var 3) dac_nil)))) (de_and (de_call (n := 3) (fs := fs_is_between K) (dac_cons de_int (dac_cons (de_op o_sub (de_var 3) de_int) (dac_cons (de_var 2) dac_nil)))) (de_call (n := 1) (fs := fs_is_list K) (dac_cons (de_var 4) dac_nil)))))))⟩
abbrev s_Web__init__ : Stmt := inClass (topS 28) 0
theorem sc_Web__init__ : FnScope ["self", "widths", "pipes", "number", "pipe"] ["self", "widths", "pipes"] (defScope s_Web__init__) := ⟨rfl, rfl, rfl, by decide +kernel, rfl, by decide +kernel, by decide +kernel⟩
def l1_Web__init__ (K : PySem.W.Frag) (Z : CT) : SW := wFor (wEnumT (wCons (wVar 2) wNil)) (wTupT 2 (wConsT (wName 3) (wConsT (wName 4) wNilT))) (wIfS (wNot (wB (wCall 2 (fs_is_pipe K) (wcCons (wCB gLen (wCons (wVar 1) wNil)) (wcCons (wVar 4) wcNil))))) (wRaise1 Z.C_BadWeb "part" (wVar 3)) wNext)
def w_Web__init__ (K : PySem.W.Frag) (Z : CT) : SW := (wSq (wIfS (wNot (wB (wCall 1 (fs_is_widths K) (wcCons (wVar 1) wcNil)))) (wRaise1 Z.C_BadWeb "part" (wC (.str "widths"))) wNext)
  (wSq (wIfS (wNot (wB (wCall 3 (fs_is_tuple_of K) (wcCons (wC (.int 0)) (wcCons (wC (.int 36)) (wcCons (wVar 2) wcNil)))))) (wRaise1 Z.C_BadWeb "part" (wC (.str "pipes"))) wNext)
  (wSq (l1_Web__init__ K Z)
  (wSq (wFld Z.C_Web 0 "widths" (wVar 1))
  (wFld Z.C_Web 0 "pipes" (wVar 2))))))
def firstBad (n : Int) : Nat → List D → Option Nat
  | _, [] => none
  | k, d :: r => if isPi n d = true then firstBad n (k + 1) r else some k
def badWeb (ws ps : D) : Option D :=
  if isWs ws = false then some (.str "widths") else if isTupOf 0 36 ps = false then some (.str "pipes") else
  match ws, ps with
  | .tup us, .tup ds => (firstBad us.length 0 ds).map fun i => .int (i : Nat)
  | _, _ => none
def fs_Web__init__ (K : PySem.W.Frag) (Z : CT) : FS := fun cs q e => ∃ x dx ws ps, cs = [.own x (.obj Z.C_Web dx []), .dat ws, .dat ps] ∧ OkD K ws ∧ OkD K ps ∧
  (∀ part, badWeb ws ps = some part → e ⟨Z.C_BadWeb, [("part", part)]⟩ cs) ∧ (badWeb ws ps = none → q .non [.own x (.obj Z.C_Web dx [("widths", ws), ("pipes", ps)]), .dat ws, .dat ps])
theorem l1_Web__init___ok {Z : CT} {c0 c3 c4 : Cell} {us ds : List D} {E : EndsD} (hd : OkD K (.tup ds)) (hb : ∀ i, firstBad us.length 0 ds = some i → ∀ c3 c4, E.ex ⟨Z.C_BadWeb, [("part", .int (i : Nat))]⟩ [c0, .dat (.tup us), .dat (.tup ds), c3, c4]) (hn : firstBad us.length 0 ds = none → ∀ c3 c4, E.nx [c0, .dat (.tup us), .dat (.tup ds), c3, c4]) : l1_Web__init__ K Z E [c0, .dat (.tup us), .dat (.tup ds), c3, c4] := by
  unfold l1_Web__init__ wFor
  refine ⟨_, rfl, ds, rfl, fun i τ => (∃ c3 c4, τ = [c0, .dat (.tup us), .dat (.tup ds), c3, c4]) ∧ firstBad us.length 0 ds = firstBad us.length i (ds.drop i), ⟨⟨_, _, rfl⟩, rfl⟩, ?_, ?_⟩
  · rintro i d τ2 hi ⟨⟨c3, c4, rfl⟩, hf⟩
    have hlt : i < ds.length := by
      have := (List.getElem?_eq_some_iff.mp hi).1
      rwa [List.length_mapIdx] at this
    rw [List.getElem?_mapIdx, List.getElem?_eq_getElem hlt] at hi
    cases hi
    have ok : OkD K ds[i] := okTup hd (List.getElem_mem hlt)
    rw [List.drop_eq_getElem_cons hlt, firstBad] at hf
    cases h : isPi us.length ds[i] with
    | false =>
      rw [h] at hf
      simp only [fs_is_pipe, wRaise1, seqD_t, ok, h, wPeekR, wTor, wSor, wXor, gNotInL, wAugVC, wRetOwnG, wRetSortFr, wExtend, gMaxT, gMinT, wAppendB, gRepT1, wFrzD, dcOf, wKeys, wDGet, wDIn, wDkNew, wDtNew, wDlNew, wLate, wPopAt, wIsiT, wRepOwn, gRepL, wAugSOwn, wListRgOwn, wZipK3, gRepT, wCountB, wIndexB, wIsiOwn, wPeekL, wCallFr, wStar, wSortSet, wTryAs, wIsE, offE, wListRg1, wListRg2, wRngDown, wZipK, gInL, gNotInT, wCatOwn, gIsB, gNotB, D.adr.injEq, Cont.pool.injEq, ixN31, ne_eq, List.map_cons, List.map_nil, wPoolOpen, wPoolClose, wPop0, wPopTo, wListOwn, wRemove, wRaise0, wRaise1, wAugOwn, wEnumL, wTru, wSlA, gCatA, gLtT, gLeT, wFrz, wChain3, wAttr, wMkF, wEnumT, wRevT, wDict0, wDict1, numD3, Nat.reduceAdd, atI0, atI1, atI2, atI3, atI4, ixN51, ixN52, ixN53, List.length_map, wNever, scal, V.int.injEq, V.str.injEq, V.bl.injEq, wSq, wNext, wBreak, wCont, wDrop, wRet, wRetN, wIfS, wAsg, wPar, wLstOwn, wAppend, wSetOwn, wIxOwn, wPeek, wRetOwn, wRetFr, wFor, wB, wNot, wAnd, wOr, wAndV, wOrV, wNotV, wIf, wChain, wNil, wCons, wCB, wTup, wLst, wNoPart, wPart, wSlT, wSlL, wSeq, wRng1, wRng2, wZip, wName, wNilT, wConsT, wTupT, wYes, wNeg, wVar, wC, wOp, wcNil, wcCons, wcOwn, wCall, wCallOwn, slots, cellsOf, OwnArgs, putBack, g2I, g2IC, gLen, gAbs, gGcd, gInt1, gTupleOf, gListOf, gIx, gCatT, gCat, gEq, gNe, gIsN, gNotN, scD, seqD_t, seqD_l, seqD_f, isNonD, List.nodup_cons, List.mem_cons, List.not_mem_nil, or_false, not_false_eq_true, Nat.reduceEqDiff, L3.Keeps, ends, wipeD, List.replicate, List.cons_append, List.nil_append, List.append_nil, List.getElem?_cons_zero, List.getElem?_cons_succ, List.set_cons_zero, List.set_cons_succ, List.getD_cons_zero, List.getD_cons_succ, List.length_cons, List.length_nil, List.nodup_nil, Option.some.injEq, Cell.dat.injEq, Cell.own.injEq, Cont.lst.injEq, D.bl.injEq, D.int.injEq, D.str.injEq, D.tup.injEq, D.lst.injEq, Arg.d.injEq, List.cons.injEq, exists_and_left, exists_and_right, exists_eq_left', exists_eq_left, exists_eq_right, exists_eq_right', exists_eq, exists_eq', and_true, true_and, and_assoc, and_self, exists_const, reduceCtorEq, web_wE, web_pE, webD_inj]
      simp
      exact hb i hf _ _
    | true =>
      rw [h] at hf
      simp only [fs_is_pipe, wRaise1, seqD_t, ok, h, wPeekR, wTor, wSor, wXor, gNotInL, wAugVC, wRetOwnG, wRetSortFr, wExtend, gMaxT, gMinT, wAppendB, gRepT1, wFrzD, dcOf, wKeys, wDGet, wDIn, wDkNew, wDtNew, wDlNew, wLate, wPopAt, wIsiT, wRepOwn, gRepL, wAugSOwn, wListRgOwn, wZipK3, gRepT, wCountB, wIndexB, wIsiOwn, wPeekL, wCallFr, wStar, wSortSet, wTryAs, wIsE, offE, wListRg1, wListRg2, wRngDown, wZipK, gInL, gNotInT, wCatOwn, gIsB, gNotB, D.adr.injEq, Cont.pool.injEq, ixN31, ne_eq, List.map_cons, List.map_nil, wPoolOpen, wPoolClose, wPop0, wPopTo, wListOwn, wRemove, wRaise0, wRaise1, wAugOwn, wEnumL, wTru, wSlA, gCatA, gLtT, gLeT, wFrz, wChain3, wAttr, wMkF, wEnumT, wRevT, wDict0, wDict1, numD3, Nat.reduceAdd, atI0, atI1, atI2, atI3, atI4, ixN51, ixN52, ixN53, List.length_map, wNever, scal, V.int.injEq, V.str.injEq, V.bl.injEq, wSq, wNext, wBreak, wCont, wDrop, wRet, wRetN, wIfS, wAsg, wPar, wLstOwn, wAppend, wSetOwn, wIxOwn, wPeek, wRetOwn, wRetFr, wFor, wB, wNot, wAnd, wOr, wAndV, wOrV, wNotV, wIf, wChain, wNil, wCons, wCB, wTup, wLst, wNoPart, wPart, wSlT, wSlL, wSeq, wRng1, wRng2, wZip, wName, wNilT, wConsT, wTupT, wYes, wNeg, wVar, wC, wOp, wcNil, wcCons, wcOwn, wCall, wCallOwn, slots, cellsOf, OwnArgs, putBack, g2I, g2IC, gLen, gAbs, gGcd, gInt1, gTupleOf, gListOf, gIx, gCatT, gCat, gEq, gNe, gIsN, gNotN, scD, seqD_t, seqD_l, seqD_f, isNonD, List.nodup_cons, List.mem_cons, List.not_mem_nil, or_false, not_false_eq_true, Nat.reduceEqDiff, L3.Keeps, ends, wipeD, List.replicate, List.cons_append, List.nil_append, List.append_nil, List.getElem?_cons_zero, List.getElem?_cons_succ, List.set_cons_zero, List.set_cons_succ, List.getD_cons_zero, List.getD_cons_succ, List.length_cons, List.length_nil, List.nodup_nil, Option.some.injEq, Cell.dat.injEq, Cell.own.injEq, Cont.lst.injEq, D.bl.injEq, D.int.injEq, D.str.injEq, D.tup.injEq, D.lst.injEq, Arg.d.injEq, List.cons.injEq, exists_and_left, exists_and_right, exists_eq_left', exists_eq_left, exists_eq_right, exists_eq_right', exists_eq, exists_eq', and_true, true_and, and_assoc, and_self, exists_const, reduceCtorEq, web_wE, web_pE, webD_inj]
      simp
      exact hf
  · rintro τ2 ⟨⟨c3, c4, rfl⟩, hf⟩
    rw [List.length_mapIdx, List.drop_length] at hf
    exact hn hf _ _
theorem pure_Web__init__ {Z : CT} : PureD 3 2 (fs_Web__init__ K Z) (w_Web__init__ K Z) := by
  rintro cs q e - ⟨x, dx, ws, ps, rfl, h1, h2, hb, hn⟩
  cases g1 : isWs ws with
  | false =>
    simp only [badWeb, g1, if_true] at hb
    simp only [w_Web__init__, fs_is_widths, wRaise1, h1, g1, wPeekR, wTor, wSor, wXor, gNotInL, wAugVC, wRetOwnG, wRetSortFr, wExtend, gMaxT, gMinT, wAppendB, gRepT1, wFrzD, dcOf, wKeys, wDGet, wDIn, wDkNew, wDtNew, wDlNew, wLate, wPopAt, wIsiT, wRepOwn, gRepL, wAugSOwn, wListRgOwn, wZipK3, gRepT, wCountB, wIndexB, wIsiOwn, wPeekL, wCallFr, wStar, wSortSet, wTryAs, wIsE, offE, wListRg1, wListRg2, wRngDown, wZipK, gInL, gNotInT, wCatOwn, gIsB, gNotB, D.adr.injEq, Cont.pool.injEq, ixN31, ne_eq, List.map_cons, List.map_nil, wPoolOpen, wPoolClose, wPop0, wPopTo, wListOwn, wRemove, wRaise0, wRaise1, wAugOwn, wEnumL, wTru, wSlA, gCatA, gLtT, gLeT, wFrz, wChain3, wAttr, wMkF, wEnumT, wRevT, wDict0, wDict1, numD3, Nat.reduceAdd, atI0, atI1, atI2, atI3, atI4, ixN51, ixN52, ixN53, List.length_map, wNever, scal, V.int.injEq, V.str.injEq, V.bl.injEq, wSq, wNext, wBreak, wCont, wDrop, wRet, wRetN, wIfS, wAsg, wPar, wLstOwn, wAppend, wSetOwn, wIxOwn, wPeek, wRetOwn, wRetFr, wFor, wB, wNot, wAnd, wOr, wAndV, wOrV, wNotV, wIf, wChain, wNil, wCons, wCB, wTup, wLst, wNoPart, wPart, wSlT, wSlL, wSeq, wRng1, wRng2, wZip, wName, wNilT, wConsT, wTupT, wYes, wNeg, wVar, wC, wOp, wcNil, wcCons, wcOwn, wCall, wCallOwn, slots, cellsOf, OwnArgs, putBack, g2I, g2IC, gLen, gAbs, gGcd, gInt1, gTupleOf, gListOf, gIx, gCatT, gCat, gEq, gNe, gIsN, gNotN, scD, seqD_t, seqD_l, seqD_f, isNonD, List.nodup_cons, List.mem_cons, List.not_mem_nil, or_false, not_false_eq_true, Nat.reduceEqDiff, L3.Keeps, ends, wipeD, List.replicate, List.cons_append, List.nil_append, List.append_nil, List.getElem?_cons_zero, List.getElem?_cons_succ, List.set_cons_zero, List.set_cons_succ, List.getD_cons_zero, List.getD_cons_succ, List.length_cons, List.length_nil, List.nodup_nil, Option.some.injEq, Cell.dat.injEq, Cell.own.injEq, Cont.lst.injEq, D.bl.injEq, D.int.injEq, D.str.injEq, D.tup.injEq, D.lst.injEq, Arg.d.injEq, List.cons.injEq, exists_and_left, exists_and_right, exists_eq_left', exists_eq_left, exists_eq_right, exists_eq_right', exists_eq, exists_eq', and_true, true_and, and_assoc, and_self, exists_const, reduceCtorEq, web_wE, web_pE, webD_inj]
    simp
    exact hb _ rfl
  | true =>
    cases g2 : isTupOf 0 36 ps with
    | false =>
      simp only [badWeb, g1, g2, if_true, Bool.true_eq_false, if_false] at hb
      simp only [w_Web__init__, fs_is_widths, fs_is_tuple_of, wRaise1, h1, h2, g1, g2, wPeekR, wTor, wSor, wXor, gNotInL, wAugVC, wRetOwnG, wRetSortFr, wExtend, gMaxT, gMinT, wAppendB, gRepT1, wFrzD, dcOf, wKeys, wDGet, wDIn, wDkNew, wDtNew, wDlNew, wLate, wPopAt, wIsiT, wRepOwn, gRepL, wAugSOwn, wListRgOwn, wZipK3, gRepT, wCountB, wIndexB, wIsiOwn, wPeekL, wCallFr, wStar, wSortSet, wTryAs, wIsE, offE, wListRg1, wListRg2, wRngDown, wZipK, gInL, gNotInT, wCatOwn, gIsB, gNotB, D.adr.injEq, Cont.pool.injEq, ixN31, ne_eq, List.map_cons, List.map_nil, wPoolOpen, wPoolClose, wPop0, wPopTo, wListOwn, wRemove, wRaise0, wRaise1, wAugOwn, wEnumL, wTru, wSlA, gCatA, gLtT, gLeT, wFrz, wChain3, wAttr, wMkF, wEnumT, wRevT, wDict0, wDict1, numD3, Nat.reduceAdd, atI0, atI1, atI2, atI3, atI4, ixN51, ixN52, ixN53, List.length_map, wNever, scal, V.int.injEq, V.str.injEq, V.bl.injEq, wSq, wNext, wBreak, wCont, wDrop, wRet, wRetN, wIfS, wAsg, wPar, wLstOwn, wAppend, wSetOwn, wIxOwn, wPeek, wRetOwn, wRetFr, wFor, wB, wNot, wAnd, wOr, wAndV, wOrV, wNotV, wIf, wChain, wNil, wCons, wCB, wTup, wLst, wNoPart, wPart, wSlT, wSlL, wSeq, wRng1, wRng2, wZip, wName, wNilT, wConsT, wTupT, wYes, wNeg, wVar, wC, wOp, wcNil, wcCons, wcOwn, wCall, wCallOwn, slots, cellsOf, OwnArgs, putBack, g2I, g2IC, gLen, gAbs, gGcd, gInt1, gTupleOf, gListOf, gIx, gCatT, gCat, gEq, gNe, gIsN, gNotN, scD, seqD_t, seqD_l, seqD_f, isNonD, List.nodup_cons, List.mem_cons, List.not_mem_nil, or_false, not_false_eq_true, Nat.reduceEqDiff, L3.Keeps, ends, wipeD, List.replicate, List.cons_append, List.nil_append, List.append_nil, List.getElem?_cons_zero, List.getElem?_cons_succ, List.set_cons_zero, List.set_cons_succ, List.getD_cons_zero, List.getD_cons_succ, List.length_cons, List.length_nil, List.nodup_nil, Option.some.injEq, Cell.dat.injEq, Cell.own.injEq, Cont.lst.injEq, D.bl.injEq, D.int.injEq, D.str.injEq, D.tup.injEq, D.lst.injEq, Arg.d.injEq, List.cons.injEq, exists_and_left, exists_and_right, exists_eq_left', exists_eq_left, exists_eq_right, exists_eq_right', exists_eq, exists_eq', and_true, true_and, and_assoc, and_self, exists_const, reduceCtorEq, web_wE, web_pE, webD_inj]
      simp
      exact hb _ rfl
    | true =>
      obtain ⟨us, rfl⟩ : ∃ us, ws = .tup us := by cases ws <;> first | exact ⟨_, rfl⟩ | cases g1
      obtain ⟨ds, rfl⟩ : ∃ us, ps = .tup us := by cases ps <;> first | exact ⟨_, rfl⟩ | cases g2
      simp only [badWeb, g1, g2, Bool.true_eq_false, if_false, Option.map_eq_some_iff, Option.map_eq_none_iff] at hb hn
      simp only [w_Web__init__, fs_is_widths, fs_is_tuple_of, wRaise1, h1, h2, g1, g2, wPeekR, wTor, wSor, wXor, gNotInL, wAugVC, wRetOwnG, wRetSortFr, wExtend, gMaxT, gMinT, wAppendB, gRepT1, wFrzD, dcOf, wKeys, wDGet, wDIn, wDkNew, wDtNew, wDlNew, wLate, wPopAt, wIsiT, wRepOwn, gRepL, wAugSOwn, wListRgOwn, wZipK3, gRepT, wCountB, wIndexB, wIsiOwn, wPeekL, wCallFr, wStar, wSortSet, wTryAs, wIsE, offE, wListRg1, wListRg2, wRngDown, wZipK, gInL, gNotInT, wCatOwn, gIsB, gNotB, D.adr.injEq, Cont.pool.injEq, ixN31, ne_eq, List.map_cons, List.map_nil, wPoolOpen, wPoolClose, wPop0, wPopTo, wListOwn, wRemove, wRaise0, wRaise1, wAugOwn, wEnumL, wTru, wSlA, gCatA, gLtT, gLeT, wFrz, wChain3, wAttr, wMkF, wEnumT, wRevT, wDict0, wDict1, numD3, Nat.reduceAdd, atI0, atI1, atI2, atI3, atI4, ixN51, ixN52, ixN53, List.length_map, wNever, scal, V.int.injEq, V.str.injEq, V.bl.injEq, wSq, wNext, wBreak, wCont, wDrop, wRet, wRetN, wIfS, wAsg, wPar, wLstOwn, wAppend, wSetOwn, wIxOwn, wPeek, wRetOwn, wRetFr, wFor, wB, wNot, wAnd, wOr, wAndV, wOrV, wNotV, wIf, wChain, wNil, wCons, wCB, wTup, wLst, wNoPart, wPart, wSlT, wSlL, wSeq, wRng1, wRng2, wZip, wName, wNilT, wConsT, wTupT, wYes, wNeg, wVar, wC, wOp, wcNil, wcCons, wcOwn, wCall, wCallOwn, slots, cellsOf, OwnArgs, putBack, g2I, g2IC, gLen, gAbs, gGcd, gInt1, gTupleOf, gListOf, gIx, gCatT, gCat, gEq, gNe, gIsN, gNotN, scD, seqD_t, seqD_l, seqD_f, isNonD, List.nodup_cons, List.mem_cons, List.not_mem_nil, or_false, not_false_eq_true, Nat.reduceEqDiff, L3.Keeps, ends, wipeD, List.replicate, List.cons_append, List.nil_append, List.append_nil, List.getElem?_cons_zero, List.getElem?_cons_succ, List.set_cons_zero, List.set_cons_succ, List.getD_cons_zero, List.getD_cons_succ, List.length_cons, List.length_nil, List.nodup_nil, Option.some.injEq, Cell.dat.injEq, Cell.own.injEq, Cont.lst.injEq, D.bl.injEq, D.int.injEq, D.str.injEq, D.tup.injEq, D.lst.injEq, Arg.d.injEq, List.cons.injEq, exists_and_left, exists_and_right, exists_eq_left', exists_eq_left, exists_eq_right, exists_eq_right', exists_eq, exists_eq', and_true, true_and, and_assoc, and_self, exists_const, reduceCtorEq, web_wE, web_pE, webD_inj]
      simp
      refine l1_Web__init___ok h2 (fun i hi c3 c4 => ?_) fun h c3 c4 => ?_
      · simp only [wPeekR, wTor, wSor, wXor, gNotInL, wAugVC, wRetOwnG, wRetSortFr, wExtend, gMaxT, gMinT, wAppendB, gRepT1, wFrzD, dcOf, wKeys, wDGet, wDIn, wDkNew, wDtNew, wDlNew, wLate, wPopAt, wIsiT, wRepOwn, gRepL, wAugSOwn, wListRgOwn, wZipK3, gRepT, wCountB, wIndexB, wIsiOwn, wPeekL, wCallFr, wStar, wSortSet, wTryAs, wIsE, offE, wListRg1, wListRg2, wRngDown, wZipK, gInL, gNotInT, wCatOwn, gIsB, gNotB, D.adr.injEq, Cont.pool.injEq, ixN31, ne_eq, List.map_cons, List.map_nil, wPoolOpen, wPoolClose, wPop0, wPopTo, wListOwn, wRemove, wRaise0, wRaise1, wAugOwn, wEnumL, wTru, wSlA, gCatA, gLtT, gLeT, wFrz, wChain3, wAttr, wMkF, wEnumT, wRevT, wDict0, wDict1, numD3, Nat.reduceAdd, atI0, atI1, atI2, atI3, atI4, ixN51, ixN52, ixN53, List.length_map, wNever, scal, V.int.injEq, V.str.injEq, V.bl.injEq, wSq, wNext, wBreak, wCont, wDrop, wRet, wRetN, wIfS, wAsg, wPar, wLstOwn, wAppend, wSetOwn, wIxOwn, wPeek, wRetOwn, wRetFr, wFor, wB, wNot, wAnd, wOr, wAndV, wOrV, wNotV, wIf, wChain, wNil, wCons, wCB, wTup, wLst, wNoPart, wPart, wSlT, wSlL, wSeq, wRng1, wRng2, wZip, wName, wNilT, wConsT, wTupT, wYes, wNeg, wVar, wC, wOp, wcNil, wcCons, wcOwn, wCall, wCallOwn, slots, cellsOf, OwnArgs, putBack, g2I, g2IC, gLen, gAbs, gGcd, gInt1, gTupleOf, gListOf, gIx, gCatT, gCat, gEq, gNe, gIsN, gNotN, scD, seqD_t, seqD_l, seqD_f, isNonD, List.nodup_cons, List.mem_cons, List.not_mem_nil, or_false, not_false_eq_true, Nat.reduceEqDiff, L3.Keeps, ends, wipeD, List.replicate, List.cons_append, List.nil_append, List.append_nil, List.getElem?_cons_zero, List.getElem?_cons_succ, List.set_cons_zero, List.set_cons_succ, List.getD_cons_zero, List.getD_cons_succ, List.length_cons, List.length_nil, List.nodup_nil, Option.some.injEq, Cell.dat.injEq, Cell.own.injEq, Cont.lst.injEq, D.bl.injEq, D.int.injEq, D.str.injEq, D.tup.injEq, D.lst.injEq, Arg.d.injEq, List.cons.injEq, exists_and_left, exists_and_right, exists_eq_left', exists_eq_left, exists_eq_right, exists_eq_right', exists_eq, exists_eq', and_true, true_and, and_assoc, and_self, exists_const, reduceCtorEq, web_wE, web_pE, webD_inj]
        exact hb _ ⟨i, hi, rfl⟩
      · have e : putD (Str.ofString "pipes") (D.tup ds) [(Str.ofString "widths", D.tup us)] = [(Str.ofString "widths", D.tup us), (Str.ofString "pipes", D.tup ds)] := by
          unfold putD
          rw [if_neg (by decide +kernel)]
          rfl
        simp only [wFld, wPeekR, wTor, wSor, wXor, gNotInL, wAugVC, wRetOwnG, wRetSortFr, wExtend, gMaxT, gMinT, wAppendB, gRepT1, wFrzD, dcOf, wKeys, wDGet, wDIn, wDkNew, wDtNew, wDlNew, wLate, wPopAt, wIsiT, wRepOwn, gRepL, wAugSOwn, wListRgOwn, wZipK3, gRepT, wCountB, wIndexB, wIsiOwn, wPeekL, wCallFr, wStar, wSortSet, wTryAs, wIsE, offE, wListRg1, wListRg2, wRngDown, wZipK, gInL, gNotInT, wCatOwn, gIsB, gNotB, D.adr.injEq, Cont.pool.injEq, ixN31, ne_eq, List.map_cons, List.map_nil, wPoolOpen, wPoolClose, wPop0, wPopTo, wListOwn, wRemove, wRaise0, wRaise1, wAugOwn, wEnumL, wTru, wSlA, gCatA, gLtT, gLeT, wFrz, wChain3, wAttr, wMkF, wEnumT, wRevT, wDict0, wDict1, numD3, Nat.reduceAdd, atI0, atI1, atI2, atI3, atI4, ixN51, ixN52, ixN53, List.length_map, wNever, scal, V.int.injEq, V.str.injEq, V.bl.injEq, wSq, wNext, wBreak, wCont, wDrop, wRet, wRetN, wIfS, wAsg, wPar, wLstOwn, wAppend, wSetOwn, wIxOwn, wPeek, wRetOwn, wRetFr, wFor, wB, wNot, wAnd, wOr, wAndV, wOrV, wNotV, wIf, wChain, wNil, wCons, wCB, wTup, wLst, wNoPart, wPart, wSlT, wSlL, wSeq, wRng1, wRng2, wZip, wName, wNilT, wConsT, wTupT, wYes, wNeg, wVar, wC, wOp, wcNil, wcCons, wcOwn, wCall, wCallOwn, slots, cellsOf, OwnArgs, putBack, g2I, g2IC, gLen, gAbs, gGcd, gInt1, gTupleOf, gListOf, gIx, gCatT, gCat, gEq, gNe, gIsN, gNotN, scD, seqD_t, seqD_l, seqD_f, isNonD, List.nodup_cons, List.mem_cons, List.not_mem_nil, or_false, not_false_eq_true, Nat.reduceEqDiff, L3.Keeps, ends, wipeD, List.replicate, List.cons_append, List.nil_append, List.append_nil, List.getElem?_cons_zero, List.getElem?_cons_succ, List.set_cons_zero, List.set_cons_succ, List.getD_cons_zero, List.getD_cons_succ, List.length_cons, List.length_nil, List.nodup_nil, Option.some.injEq, Cell.dat.injEq, Cell.own.injEq, Cont.lst.injEq, D.bl.injEq, D.int.injEq, D.str.injEq, D.tup.injEq, D.lst.injEq, Arg.d.injEq, List.cons.injEq, exists_and_left, exists_and_right, exists_eq_left', exists_eq_left, exists_eq_right, exists_eq_right', exists_eq, exists_eq', and_true, true_and, and_assoc, and_self, exists_const, reduceCtorEq, web_wE, web_pE, webD_inj]
        simp
        exact ⟨dx, [], ⟨rfl, rfl⟩, (show (0 : Nat) < 1000 by decide), dx, [(Str.ofString "widths", D.tup us)], ⟨rfl, rfl⟩, (show (1 : Nat) < 1000 by decide), by rw [e]; exact hn h⟩
theorem ok_Web__init__ (T : Txt K mg) : FnOk P w K mg base (L2.CX P w) 6 T.f_Web__init__ T.fd_Web__init__ ["self", "widths", "pipes"] (spOf K 3 (fs_Web__init__ K T.Z)) := by
  refine def_ok T.F_Web__init__ sc_Web__init__ (wb := w_Web__init__ K T.Z) pure_Web__init__ ?_
  intro cdv A outer s H E hr tk
  exact ⟨_, (pss_cons (ps_if (pt_not (pt_val (pe_callS (ok_is_widths T) (hr.mono (by decide)) rfl T.g_is_widths T.k_is_widths T.b_is_widths (fun σ => passAt tk σ) (pa_cons (pv 1) pa_nil))))
        (pss_one (ps_raise rfl tk (pmk_oex T.ox_BadWeb T.xi_BadWeb T.xt_BadWeb (okx_BadWeb T) (hr.mono (by decide : 2 ≤ _)) T.bx_BadWeb .nil passL rfl T.gx_BadWeb (pa_cons pe_str pa_nil))))
        pss_nil)
      (pss_cons (ps_if (pt_not (pt_val (pe_callS (ok_is_tuple_of T) (hr.mono (by decide)) rfl T.g_is_tuple_of T.k_is_tuple_of T.b_is_tuple_of (fun σ => passAt tk σ) (pa_cons pe_int (pa_cons (pe_glob (v := .int 36) rfl T.c_MOST_PIPES ⟨_, rfl⟩) (pa_cons (pv 2) pa_nil))))))
        (pss_one (ps_raise rfl tk (pmk_oex T.ox_BadWeb T.xi_BadWeb T.xt_BadWeb (okx_BadWeb T) (hr.mono (by decide : 2 ≤ _)) T.bx_BadWeb .nil passL rfl T.gx_BadWeb (pa_cons pe_str pa_nil))))
        pss_nil)
      (pss_cons (ps_for (passes_of rfl) rfl (pi_enumT (by rfl) T.z_enumerate (pa_cons (pv 2) pa_nil)) (pg_tup (by rfl) (pgs_cons (pg_name (i := 3) sc_Web__init__.nd rfl (by first | exact Or.inl rfl | exact Or.inr rfl)) (pgs_cons (pg_name (i := 4) sc_Web__init__.nd rfl (by first | exact Or.inl rfl | exact Or.inr rfl)) pgs_nil)))
        (pss_one (ps_if (pt_not (pt_val (pe_callS (ok_is_pipe T) (hr.mono (by decide)) rfl T.g_is_pipe T.k_is_pipe T.b_is_pipe (fun σ => passAt tk σ) (pa_cons (pe_callB call_len_seq (by rfl) T.z_len (by decide +kernel) (pa_cons (pv 1) pa_nil)) (pa_cons (pv 4) pa_nil)))))
        (pss_one (ps_raise rfl tk (pmk_oex T.ox_BadWeb T.xi_BadWeb T.xt_BadWeb (okx_BadWeb T) (hr.mono (by decide : 2 ≤ _)) T.bx_BadWeb .nil passL rfl T.gx_BadWeb (pa_cons (pv 3) pa_nil))))
        pss_nil)))
      (pss_cons (ps_fld (pv 0) (pv 1) (by rfl))
      (pss_one (ps_fld (pv 0) (pv 2) (by rfl))))))),
    (ds_seq (ds_if (dt_not (dt_B (de_call (n := 1) (fs := fs_is_widths K) (dac_cons (de_var 1) dac_nil)))) (ds_raise1 (C := T.Z.C_BadWeb) (f := "part") de_str) ds_nil)
      (ds_seq (ds_if (dt_not (dt_B (de_call (n := 3) (fs := fs_is_tuple_of K) (dac_cons de_int (dac_cons de_int (dac_cons (de_var 2) dac_nil)))))) (ds_raise1 (C := T.Z.C_BadWeb) (f := "part") de_str) ds_nil)
      (ds_seq (ds_for (wI := (wEnumT (wCons (wVar 2) wNil))) (wg := (wTupT 2 (wConsT (wName 3) (wConsT (wName 4) wNilT)))) (wb := (wIfS (wNot (wB (wCall 2 (fs_is_pipe K) (wcCons (wCB gLen (wCons (wVar 1) wNil)) (wcCons (wVar 4) wcNil))))) (wRaise1 T.Z.C_BadWeb "part" (wVar 3)) wNext)) (di_enumT (da_cons (de_var 2) da_nil)) (dg_tup (n := 2) (dgs_cons (dg_name 3) (dgs_cons (dg_name 4) dgs_nil))) (ds_if (dt_not (dt_B (de_call (n := 2) (fs := fs_is_pipe K) (dac_cons (de_cb o_len (da_cons (de_var 1) da_nil)) (dac_cons (de_var 4) dac_nil))))) (ds_raise1 (C := T.Z.C_BadWeb) (f := "part") (de_var 3)) ds_nil))
      (ds_seq (ds_fld (i := 0) T.it_Web.cl T.na_Web_widths (de_var 1))
      (ds_fld (i := 0) T.it_Web.cl T.na_Web_pipes (de_var 2))))))⟩
/-! the math of ascends -/
def ltN : D → Bool | .tup [.int a, .int b] => decide (a < b) | _ => false
def ascN (ds : List D) : Bool := (zipD ds (ds.drop 1)).all ltN
theorem isIntD_get {d : D} (h : isIntD d = true) : ∃ i, d = .int i := by
  cases d <;> simp [isIntD] at h
  exact ⟨_, rfl⟩
theorem asc_cons {x y : D} {r : List D} : ascN (x :: y :: r) = (ltN (.tup [x, y]) && ascN (y :: r)) := rfl
theorem asc_gt : ∀ {r : List D} {i : Int}, (∀ d ∈ r, isIntD d = true) → ascN (.int i :: r) = true → ascN r = true ∧ ∀ d ∈ r, ∃ j, d = .int j ∧ i < j
  | [], i, _, _ => ⟨rfl, fun d h => by simp at h⟩
  | x :: r, i, h, a => by
    obtain ⟨j, rfl⟩ := isIntD_get (h x (by simp))
    rw [asc_cons, Bool.and_eq_true] at a
    have hj : i < j := of_decide_eq_true a.1
    obtain ⟨_, a2⟩ := asc_gt (fun d hd => h d (by simp [hd])) a.2
    refine ⟨a.2, fun d hd => ?_⟩
    rcases List.mem_cons.mp hd with rfl | hd
    · exact ⟨j, rfl, hj⟩
    · obtain ⟨k, rfl, hk⟩ := a2 d hd
      exact ⟨k, rfl, by omega⟩
theorem asc_of : ∀ {r : List D} {i : Int}, ascN r = true → (∀ d ∈ r, ∃ j, d = .int j ∧ i < j) → ascN (.int i :: r) = true
  | [], i, _, _ => rfl
  | x :: r, i, a, h => by
    obtain ⟨j, rfl, hj⟩ := h x (by simp)
    rw [asc_cons, Bool.and_eq_true]
    exact ⟨decide_eq_true hj, a⟩
theorem asc_snoc : ∀ {r : List D} {i : Int}, ascN r = true → (∀ d ∈ r, ∃ j, d = .int j ∧ j < i) → ascN (r ++ [.int i]) = true
  | [], i, _, _ => rfl
  | x :: r, i, a, h => by
    obtain ⟨j, rfl, hj⟩ := h x (by simp)
    have hi : ∀ d ∈ r, isIntD d = true := fun d hd => by
      obtain ⟨k, rfl, _⟩ := h d (by simp [hd])
      rfl
    obtain ⟨a1, a2⟩ := asc_gt hi a
    refine asc_of (asc_snoc a1 fun d hd => h d (by simp [hd])) fun d hd => ?_
    rcases List.mem_append.mp hd with hd | hd
    · exact a2 d hd
    · have : d = .int i := by simpa using hd
      exact ⟨i, this, hj⟩
/-! the math of is_filling -/
theorem tup_okd {ds : List D} (h : ∀ d ∈ ds, OkD K d) : OkD K (.tup ds) := by unfold OkD; exact okDs_of h
theorem lst_okd {ds : List D} (h : ∀ d ∈ ds, OkD K d) : OkD K (.lst ds) := by unfold OkD; exact okDs_of h
theorem int_okd (i : Int) : OkD K (.int i) := by simp [OkD]
theorem th_okd {d : D} (h : isTh d = true) : OkD K d := by
  obtain ⟨t, b, rfl, _⟩ := th_shape h
  exact tup_okd fun x hx => by
    have : x = .int t ∨ x = .int b := by simpa using hx
    rcases this with rfl | rfl <;> exact int_okd _
theorem zip_mem2 {xs ys : List D} {d : D} (h : d ∈ zipD xs ys) : ∃ x y, x ∈ xs ∧ y ∈ ys ∧ d = .tup [x, y] := zip_mem h
theorem pi_l {v : Int} {x y l : D} (h : isIntD x = false) : isPi v (.tup [x, y, l]) = false := by
  cases x <;> first | (cases y <;> (simp [isPi, isBetw]; done)) | cases h
theorem pi_m {v : Int} {x y l : D} (h : isIntD y = false) : isPi v (.tup [x, y, l]) = false := by
  cases y <;> first | (cases x <;> (rfl; done)) | cases h
theorem pi_shape {v : Int} {d : D} (h : isPi v d = true) : ∃ (a b : Int) (l : D), d = .tup [.int a, .int b, l] ∧ 0 ≤ a ∧ a < b ∧ b < v ∧ isLi l = true := by
  cases h2 : isTupOf 3 3 d with
  | false => rw [pi_not_three h2] at h; cases h
  | true =>
    obtain ⟨x, y, l, rfl⟩ := tup_three h2
    cases ix : isIntD x with
    | false => rw [pi_l ix] at h; cases h
    | true =>
      cases iy : isIntD y with
      | false => rw [pi_m iy] at h; cases h
      | true =>
        obtain ⟨a, rfl⟩ := int_of ix
        obtain ⟨b, rfl⟩ := int_of iy
        simp [isPi, isBetw] at h
        exact ⟨a, b, l, rfl, by omega, by omega, by omega, h.2⟩
def iAt (xs : List D) (k : Nat) : Int := match xs[k]? with | some (.int i) => i | _ => 0
theorem betw_at {l h : Int} {xs : List D} {k : Nat} (hx : ∀ d ∈ xs, isBetw l h d = true) (hk : k < xs.length) : xs[k]? = some (.int (iAt xs k)) ∧ l ≤ iAt xs k ∧ iAt xs k ≤ h := by
  obtain ⟨i, e, i0, i1⟩ := betw_int (hx _ (List.getElem_mem hk))
  have e1 : xs[k]? = some (.int i) := by rw [List.getElem?_eq_getElem hk, e]
  have e2 : iAt xs k = i := by unfold iAt; rw [e1]
  rw [e2]
  exact ⟨e1, i0, i1⟩
theorem int_at {xs : List D} {k : Nat} (hx : ∀ d ∈ xs, isIntD d = true) (hk : k < xs.length) : xs[k]? = some (.int (iAt xs k)) := by
  obtain ⟨i, e⟩ := int_of (hx _ (List.getElem_mem hk))
  have e1 : xs[k]? = some (.int i) := by rw [List.getElem?_eq_getElem hk, e]
  have e2 : iAt xs k = i := by unfold iAt; rw [e1]
  rw [e2, e1]
theorem liW {d : D} (h : isLi d = true) : ∃ es, d = .tup es ∧ 1 ≤ es.length ∧ es.length ≤ 6 ∧ (∀ x ∈ es, isTh x = true) ∧ ascP es = true := by
  cases d <;> simp [isLi] at h
  obtain ⟨⟨h1, h2⟩, h3⟩ := h
  simp [isTupOf] at h1
  exact ⟨_, rfl, by omega, by omega, h2, h3⟩
theorem li_okd {d : D} (h : isLi d = true) : OkD K d := by
  obtain ⟨es, rfl, _, _, h3, _⟩ := liW h
  exact tup_okd fun x hx => th_okd (h3 x hx)
theorem pi_okd {n : Int} {d : D} (h : isPi n d = true) : OkD K d := by
  obtain ⟨a, b, l, rfl, _, _, _, hl⟩ := pi_shape h
  exact tup_okd fun x hx => by
    have : x = .int a ∨ x = .int b ∨ x = l := by simpa using hx
    rcases this with rfl | rfl | rfl
    · exact int_okd _
    · exact int_okd _
    · exact li_okd hl
def smI : D → Bool | .int i => decide (i.natAbs < 2 ^ 131) | _ => true
def smV : D → Bool | .int i => decide (i.natAbs < 2 ^ 131) | .tup ds => ds.all smI | _ => true
def WebV (us ds : List D) : Prop := (1 ≤ us.length ∧ us.length ≤ 12 ∧ ∀ d ∈ us, isBetw 0 12 d = true) ∧ ds.length ≤ 36 ∧ ∀ d ∈ ds, isPi us.length d = true
theorem web_okd {us ds : List D} (h : WebV us ds) : OkD K (.tup us) ∧ OkD K (.tup ds) := ⟨tup_okd fun d hd => by
  obtain ⟨i, rfl, _⟩ := betw_int (h.1.2.2 d hd)
  exact int_okd _, tup_okd fun d hd => pi_okd (h.2.2 d hd)⟩
theorem firstBad_all {n : Int} : ∀ {ds : List D} {k : Nat}, (∀ d ∈ ds, isPi n d = true) → firstBad n k ds = none
  | [], _, _ => rfl
  | x :: r, k, h => by
    unfold firstBad
    rw [if_pos (h x (by simp))]
    exact firstBad_all fun d hd => h d (by simp [hd])
theorem web_ok {us ds : List D} (h : WebV us ds) : badWeb (.tup us) (.tup ds) = none := by
  obtain ⟨⟨u1, u2, u3⟩, d4, hd⟩ := h
  have g1 : isWs (.tup us) = true := by
    simp only [isWs, isTupOf, Bool.and_eq_true, decide_eq_true_eq, List.all_eq_true]
    refine ⟨?_, u3⟩
    omega
  have g2 : isTupOf 0 36 (.tup ds) = true := by
    simp only [isTupOf, Bool.and_eq_true, decide_eq_true_eq]
    omega
  simp only [badWeb, g1, g2, Bool.true_eq_false, if_false, firstBad_all hd, Option.map_none]
def filP : D → Bool | .tup [.int w, .int f] => decide (0 < w) || decide (f = 0) | _ => false
def isFil (us : List D) : D → Bool | .tup fs => decide (fs.length = us.length) && fs.all isIntD && (zipD us fs).all filP | _ => false
theorem zip_all_id {us fs : List D} : True := trivial
/-! the math of level_of -/
def mx1 (w : Int) : Int := mxI w 1
theorem mx1_bd {us ds : List D} (hw : WebV us ds) (k : Nat) : 1 ≤ mx1 (iAt us k) ∧ mx1 (iAt us k) ≤ 12 := by
  unfold mx1 mxI
  by_cases h : k < us.length
  · have := betw_at hw.1.2.2 h
    split <;> omega
  · have : iAt us k = 0 := by unfold iAt; rw [List.getElem?_eq_none (Nat.le_of_not_lt h)]
    rw [this]
    decide
def FilV (us fs : List D) : Prop := fs.length = us.length ∧ ∀ d ∈ fs, isIntD d = true
theorem fil_get {us : List D} {d : D} (h : isFil us d = true) : ∃ fs, d = .tup fs ∧ FilV us fs := by
  cases d <;> simp [isFil] at h
  exact ⟨_, rfl, h.1.1, h.1.2⟩
def lvN (us fs : List D) (k : Nat) : D := nf (iAt fs k) (mx1 (iAt us k))
theorem fil_iff {us fs : List D} (hu : ∀ d ∈ us, isBetw 0 12 d = true) : isFil us (.tup fs) = true ↔ fs.length = us.length ∧ ∀ k, k < us.length → ∃ x : Int, fs[k]? = some (.int x) ∧ (iAt us k = 0 → x = 0) := by
  simp only [isFil, Bool.and_eq_true, decide_eq_true_eq, List.all_eq_true]
  constructor
  · rintro ⟨⟨h1, h2⟩, h3⟩
    refine ⟨h1, fun k hk => ⟨_, int_at h2 (by rw [h1]; exact hk), fun z => ?_⟩⟩
    have hl : (zipD us fs).length = us.length := by unfold zipD; rw [List.length_zipWith, h1, Nat.min_self]
    obtain ⟨a, b, e1, e2, e3⟩ := zip_get (xs := us) (ys := fs) (i := k) (by omega)
    obtain ⟨f1, _, _⟩ := betw_at hu hk
    rw [f1] at e1
    cases e1
    rw [int_at h2 (by rw [h1]; exact hk)] at e2
    cases e2
    have := h3 _ (List.mem_of_getElem? e3)
    simp only [filP, Bool.or_eq_true, decide_eq_true_eq] at this
    omega
  · rintro ⟨h1, h2⟩
    have hi : ∀ d ∈ fs, isIntD d = true := fun d hd => by
      obtain ⟨k, hk⟩ := List.getElem?_of_mem hd
      obtain ⟨x, e, _⟩ := h2 k (by have := (List.getElem?_eq_some_iff.mp hk).1; rw [← h1]; exact this)
      rw [hk] at e
      cases e
      rfl
    refine ⟨⟨h1, hi⟩, fun d hd => ?_⟩
    obtain ⟨k, hk⟩ := List.getElem?_of_mem hd
    have hl : (zipD us fs).length = us.length := by unfold zipD; rw [List.length_zipWith, h1, Nat.min_self]
    have hk' : k < us.length := by
      have := (List.getElem?_eq_some_iff.mp hk).1
      omega
    obtain ⟨a, b, e1, e2, e3⟩ := zip_get (xs := us) (ys := fs) (i := k) (by omega)
    obtain ⟨x, g1, g3⟩ := h2 k hk'
    obtain ⟨f1, f2, f3⟩ := betw_at hu hk'
    rw [e2] at g1
    cases g1
    rw [f1] at e1
    cases e1
    rw [hk] at e3
    cases e3
    simp only [filP, Bool.or_eq_true, decide_eq_true_eq]
    by_cases z : iAt us k = 0
    · exact .inr (g3 z)
    · exact .inl (by omega)
/-! the math of drop_of -/
def topN (us fs : List D) (a b : Nat) : Int := iAt fs a * mx1 (iAt us b) - iAt fs b * mx1 (iAt us a)
def botN (us : List D) (a b : Nat) : Int := mx1 (iAt us a) * mx1 (iAt us b)
def drN (us fs : List D) : D → D | .tup [.int a, .int b, _] => nf (topN us fs a.toNat b.toNat) (botN us a.toNat b.toNat) | _ => .non
theorem botN_bd {us ds : List D} (hw : WebV us ds) (a b : Nat) : 1 ≤ botN us a b ∧ botN us a b ≤ 144 := by
  unfold botN
  have ma := mx1_bd hw a
  have mb := mx1_bd hw b
  have h1 : mx1 (iAt us a) * mx1 (iAt us b) ≤ 12 * 12 := Int.mul_le_mul ma.2 mb.2 (by omega) (by decide)
  have h2 : 1 * 1 ≤ mx1 (iAt us a) * mx1 (iAt us b) := Int.mul_le_mul ma.1 mb.1 (by decide) (by omega)
  omega
theorem take_snoc {ds : List D} {i : Nat} {d : D} (h : ds[i]? = some d) : ds.take (i + 1) = ds.take i ++ [d] := by
  rw [List.take_add_one, h]
  rfl
abbrev s_nets_by : Stmt := topS 22
theorem sc_nets_by : FnScope ["web", "ran", "found", "_", "one", "other", "many"] ["web", "ran"] (defScope s_nets_by) := ⟨rfl, rfl, rfl, by decide +kernel, rfl, by decide +kernel, by decide +kernel⟩
def c1_nets_by (K : PySem.W.Frag) (Z : CT) : SW := wLcOwn 2 (wSeq (wAttr Z.C_Web "widths" (wVar 0))) (wName 3) wYes (wC (.int 0)) [3]
def l2_nets_by (K : PySem.W.Frag) (Z : CT) : SW := wFor (wZipK (wCons (wAttr Z.C_Web "pipes" (wVar 0)) (wCons (wVar 1) wNil))) (wTupT 2 (wConsT (wTupT 3 (wConsT (wName 4) (wConsT (wName 5) (wConsT (wName 3) wNilT)))) (wConsT (wName 6) wNilT))) (wSq (wAugOwn 2 (wVar 4) (wVar 6))
  (wAugSOwn 2 (wVar 5) (wVar 6)))
def w_nets_by (K : PySem.W.Frag) (Z : CT) : SW := (wSq (c1_nets_by K Z)
  (wSq (l2_nets_by K Z)
  (wRet (wPeek 2 (fun es q => q (.tup es))))))
/-- what one pipe takes out of a vessel -/
def dlN : Option D → Option D → Nat → Int
  | some (.tup [.int a, .int b, _]), some (.int r), v => (if a = (v : Int) then r else 0) - (if b = (v : Int) then r else 0)
  | _, _, _ => 0
def netK (ds rs : List D) : Nat → Nat → Int
  | 0, _ => 0
  | i + 1, v => netK ds rs i v + dlN ds[i]? rs[i]? v
def netL (n : Nat) (ds rs : List D) (i : Nat) : List D := (List.range n).map fun v => .int (netK ds rs i v)
def netS (us ds rs : List D) : List D := netL us.length ds rs ds.length
theorem netL_len {n i : Nat} {ds rs : List D} : (netL n ds rs i).length = n := by unfold netL; rw [List.length_map, List.length_range]
theorem netL_get {n i v : Nat} {ds rs : List D} (h : v < n) : (netL n ds rs i)[v]? = some (.int (netK ds rs i v)) := by
  unfold netL
  rw [List.getElem?_map, List.getElem?_range h]
  rfl
theorem netL_step {n i a b : Nat} {ds rs : List D} {l : D} {r : Int} (h1 : ds[i]? = some (.tup [.int (a : Nat), .int (b : Nat), l])) (h2 : rs[i]? = some (.int r)) (hab : a < b) (hb : b < n) :
    ((netL n ds rs i).set a (.int (netK ds rs i a + r))).set b (.int (netK ds rs i b - r)) = netL n ds rs (i + 1) := by
  apply List.ext_getElem?
  intro v
  have st : netK ds rs (i + 1) v = netK ds rs i v + ((if (a : Int) = v then r else 0) - (if (b : Int) = v then r else 0)) := by
    show netK ds rs i v + dlN ds[i]? rs[i]? v = _
    rw [h1, h2]
    rfl
  by_cases hv : v < n
  · rw [netL_get hv, st]
    by_cases e2 : b = v
    · subst e2
      rw [List.getElem?_set_self (by rw [List.length_set, netL_len]; exact hv), if_neg (by omega), if_pos rfl]
      congr 2
      omega
    · rw [List.getElem?_set_ne e2, if_neg (show ¬ (b : Int) = v by omega)]
      by_cases e1 : a = v
      · subst e1
        rw [List.getElem?_set_self (by rw [netL_len]; exact hv), if_pos rfl]
        congr 2
        omega
      · rw [List.getElem?_set_ne e1, netL_get hv, if_neg (by omega)]
        simp
  · rw [List.getElem?_eq_none (by rw [List.length_set, List.length_set, netL_len]; omega), List.getElem?_eq_none (by rw [netL_len]; omega)]
/-- what ran, a number for each pipe -/
def RanV (ds rs : List D) : Prop := rs.length = ds.length ∧ ∀ d ∈ rs, isIntD d = true
def fs_nets_by (K : PySem.W.Frag) (Z : CT) : FS := fun cs q _ => ∃ us ds r rs, cs = [.dat (webD Z.C_Web (.tup us) (.tup ds)), .dat r] ∧ seqD r = some rs ∧ WebV us ds ∧ RanV ds rs ∧ q (.tup (netS us ds rs)) cs
theorem l2_nets_by_ok {Z : CT} {us ds rs : List D} {r : D} {p : Addr} {c3 c4 c5 c6 : Cell} {E : EndsD} (hs : seqD r = some rs) (hw : WebV us ds) (hr : RanV ds rs)
    (hn : ∀ c3 c4 c5 c6, E.nx [.dat (webD Z.C_Web (.tup us) (.tup ds)), .dat r, .own p (.lst (netS us ds rs)), c3, c4, c5, c6]) : l2_nets_by K Z E [.dat (webD Z.C_Web (.tup us) (.tup ds)), .dat r, .own p (.lst (netL us.length ds rs 0)), c3, c4, c5, c6] := by
  unfold l2_nets_by wFor
  have hz : (zipD ds rs).length = ds.length := by unfold zipD; rw [List.length_zipWith, hr.1, Nat.min_self]
  refine ⟨_, rfl, _, _, rfl, web_p, _, rfl, _, _, ds, rs, rfl, rfl, hs, fun i τ => ∃ c3 c4 c5 c6, τ = [.dat (webD Z.C_Web (.tup us) (.tup ds)), .dat r, .own p (.lst (netL us.length ds rs i)), c3, c4, c5, c6], ⟨_, _, _, _, rfl⟩, ?_, ?_⟩
  · rintro i d τ2 hi ⟨c3, c4, c5, c6, rfl⟩
    have hlt : i < ds.length := by
      have := (List.getElem?_eq_some_iff.mp hi).1
      omega
    obtain ⟨x, y, hx, hy, hxy⟩ := zip_get (xs := ds) (ys := rs) (i := i) (by omega)
    rw [hxy] at hi
    cases hi
    obtain ⟨a, b, l, rfl, a0, ab, bn, _⟩ := pi_shape (hw.2.2 x (List.mem_of_getElem? hx))
    obtain ⟨r, rfl⟩ := int_of (hr.2 y (List.mem_of_getElem? hy))
    obtain ⟨a, rfl⟩ := Int.eq_ofNat_of_zero_le a0
    obtain ⟨b, rfl⟩ := Int.eq_ofNat_of_zero_le (show 0 ≤ b by omega)
    have gx : (netL us.length ds rs i)[a]? = some (.int (netK ds rs i a)) := netL_get (by omega)
    have gy : ((netL us.length ds rs i).set a (.int (netK ds rs i a + r)))[b]? = some (.int (netK ds rs i b)) := by
      rw [List.getElem?_set_ne (by omega)]
      exact netL_get (by omega)
    have st := netL_step (n := us.length) hx hy (by omega) (by omega)
    simp only [Int.toNat_natCast, gx, gy, wPeekR, wTor, wSor, wXor, gNotInL, wAugVC, wRetOwnG, wRetSortFr, wExtend, gMaxT, gMinT, wAppendB, gRepT1, wFrzD, dcOf, wKeys, wDGet, wDIn, wDkNew, wDtNew, wDlNew, wLate, wPopAt, wIsiT, wRepOwn, gRepL, wAugSOwn, wListRgOwn, wZipK3, gRepT, wCountB, wIndexB, wIsiOwn, wPeekL, wCallFr, wStar, wSortSet, wTryAs, wIsE, offE, wListRg1, wListRg2, wRngDown, wZipK, gInL, gNotInT, wCatOwn, gIsB, gNotB, D.adr.injEq, Cont.pool.injEq, ixN31, ne_eq, List.map_cons, List.map_nil, wPoolOpen, wPoolClose, wPop0, wPopTo, wListOwn, wRemove, wRaise0, wRaise1, wAugOwn, wEnumL, wTru, wSlA, gCatA, gLtT, gLeT, wFrz, wChain3, wAttr, wMkF, wEnumT, wRevT, wDict0, wDict1, numD3, Nat.reduceAdd, atI0, atI1, atI2, atI3, atI4, ixN51, ixN52, ixN53, List.length_map, wNever, scal, V.int.injEq, V.str.injEq, V.bl.injEq, wSq, wNext, wBreak, wCont, wDrop, wRet, wRetN, wIfS, wAsg, wPar, wLstOwn, wAppend, wSetOwn, wIxOwn, wPeek, wRetOwn, wRetFr, wFor, wB, wNot, wAnd, wOr, wAndV, wOrV, wNotV, wIf, wChain, wNil, wCons, wCB, wTup, wLst, wNoPart, wPart, wSlT, wSlL, wSeq, wRng1, wRng2, wZip, wName, wNilT, wConsT, wTupT, wYes, wNeg, wVar, wC, wOp, wcNil, wcCons, wcOwn, wCall, wCallOwn, slots, cellsOf, OwnArgs, putBack, g2I, g2IC, gLen, gAbs, gGcd, gInt1, gTupleOf, gListOf, gIx, gCatT, gCat, gEq, gNe, gIsN, gNotN, scD, seqD_t, seqD_l, seqD_f, isNonD, List.nodup_cons, List.mem_cons, List.not_mem_nil, or_false, not_false_eq_true, Nat.reduceEqDiff, L3.Keeps, ends, wipeD, List.replicate, List.cons_append, List.nil_append, List.append_nil, List.getElem?_cons_zero, List.getElem?_cons_succ, List.set_cons_zero, List.set_cons_succ, List.getD_cons_zero, List.getD_cons_succ, List.length_cons, List.length_nil, List.nodup_nil, Option.some.injEq, Cell.dat.injEq, Cell.own.injEq, Cont.lst.injEq, D.bl.injEq, D.int.injEq, D.str.injEq, D.tup.injEq, D.lst.injEq, Arg.d.injEq, List.cons.injEq, exists_and_left, exists_and_right, exists_eq_left', exists_eq_left, exists_eq_right, exists_eq_right', exists_eq, exists_eq', and_true, true_and, and_assoc, and_self, exists_const, reduceCtorEq, web_wE, web_pE, webD_inj]
    refine ⟨a0, by omega, ?_⟩
    rw [st]
  · rintro τ2 ⟨c3, c4, c5, c6, rfl⟩
    rw [hz]
    exact hn _ _ _ _
theorem zeros_net {us ds rs : List D} : ((us.filter fun _ => true).map fun _ => D.int 0) = netL us.length ds rs 0 := by
  rw [filter_true]
  apply List.ext_getElem
  · rw [List.length_map, netL_len]
  · intro n h1 h2
    simp [netL, netK]
theorem pure_nets_by {Z : CT} : PureD 2 5 (fs_nets_by K Z) (w_nets_by K Z) := by
  rintro cs q e - ⟨us, ds, r, rs, rfl, hs, hw, hr, hq⟩
  simp only [w_nets_by, wSq]
  unfold c1_nets_by wLcOwn
  refine ⟨_, rfl, _, _, rfl, web_w, us, rfl, lc_own (fun _ => .int 0) (fun _ => true) (by have := hw.1.2.1; omega) (fun d hm k1 k2 h1 _ => ?_) fun p => ?_⟩
  · simp only [wPeekR, wTor, wSor, wXor, gNotInL, wAugVC, wRetOwnG, wRetSortFr, wExtend, gMaxT, gMinT, wAppendB, gRepT1, wFrzD, dcOf, wKeys, wDGet, wDIn, wDkNew, wDtNew, wDlNew, wLate, wPopAt, wIsiT, wRepOwn, gRepL, wAugSOwn, wListRgOwn, wZipK3, gRepT, wCountB, wIndexB, wIsiOwn, wPeekL, wCallFr, wStar, wSortSet, wTryAs, wIsE, offE, wListRg1, wListRg2, wRngDown, wZipK, gInL, gNotInT, wCatOwn, gIsB, gNotB, D.adr.injEq, Cont.pool.injEq, ixN31, ne_eq, List.map_cons, List.map_nil, wPoolOpen, wPoolClose, wPop0, wPopTo, wListOwn, wRemove, wRaise0, wRaise1, wAugOwn, wEnumL, wTru, wSlA, gCatA, gLtT, gLeT, wFrz, wChain3, wAttr, wMkF, wEnumT, wRevT, wDict0, wDict1, numD3, Nat.reduceAdd, atI0, atI1, atI2, atI3, atI4, ixN51, ixN52, ixN53, List.length_map, wNever, scal, V.int.injEq, V.str.injEq, V.bl.injEq, wSq, wNext, wBreak, wCont, wDrop, wRet, wRetN, wIfS, wAsg, wPar, wLstOwn, wAppend, wSetOwn, wIxOwn, wPeek, wRetOwn, wRetFr, wFor, wB, wNot, wAnd, wOr, wAndV, wOrV, wNotV, wIf, wChain, wNil, wCons, wCB, wTup, wLst, wNoPart, wPart, wSlT, wSlL, wSeq, wRng1, wRng2, wZip, wName, wNilT, wConsT, wTupT, wYes, wNeg, wVar, wC, wOp, wcNil, wcCons, wcOwn, wCall, wCallOwn, slots, cellsOf, OwnArgs, putBack, g2I, g2IC, gLen, gAbs, gGcd, gInt1, gTupleOf, gListOf, gIx, gCatT, gCat, gEq, gNe, gIsN, gNotN, scD, seqD_t, seqD_l, seqD_f, isNonD, List.nodup_cons, List.mem_cons, List.not_mem_nil, or_false, not_false_eq_true, Nat.reduceEqDiff, L3.Keeps, ends, wipeD, List.replicate, List.cons_append, List.nil_append, List.append_nil, List.getElem?_cons_zero, List.getElem?_cons_succ, List.set_cons_zero, List.set_cons_succ, List.getD_cons_zero, List.getD_cons_succ, List.length_cons, List.length_nil, List.nodup_nil, Option.some.injEq, Cell.dat.injEq, Cell.own.injEq, Cont.lst.injEq, D.bl.injEq, D.int.injEq, D.str.injEq, D.tup.injEq, D.lst.injEq, Arg.d.injEq, List.cons.injEq, exists_and_left, exists_and_right, exists_eq_left', exists_eq_left, exists_eq_right, exists_eq_right', exists_eq, exists_eq', and_true, true_and, and_assoc, and_self, exists_const, reduceCtorEq, web_wE, web_pE, webD_inj]
    simp only [true_implies]
    exact ⟨h1 rfl _ rfl, fun z => z.elim⟩
  · rw [zeros_net (ds := ds) (rs := rs)]
    refine l2_nets_by_ok (K := K) hs hw hr fun c3 c4 c5 c6 => ?_
    simp only [wPeekR, wTor, wSor, wXor, gNotInL, wAugVC, wRetOwnG, wRetSortFr, wExtend, gMaxT, gMinT, wAppendB, gRepT1, wFrzD, dcOf, wKeys, wDGet, wDIn, wDkNew, wDtNew, wDlNew, wLate, wPopAt, wIsiT, wRepOwn, gRepL, wAugSOwn, wListRgOwn, wZipK3, gRepT, wCountB, wIndexB, wIsiOwn, wPeekL, wCallFr, wStar, wSortSet, wTryAs, wIsE, offE, wListRg1, wListRg2, wRngDown, wZipK, gInL, gNotInT, wCatOwn, gIsB, gNotB, D.adr.injEq, Cont.pool.injEq, ixN31, ne_eq, List.map_cons, List.map_nil, wPoolOpen, wPoolClose, wPop0, wPopTo, wListOwn, wRemove, wRaise0, wRaise1, wAugOwn, wEnumL, wTru, wSlA, gCatA, gLtT, gLeT, wFrz, wChain3, wAttr, wMkF, wEnumT, wRevT, wDict0, wDict1, numD3, Nat.reduceAdd, atI0, atI1, atI2, atI3, atI4, ixN51, ixN52, ixN53, List.length_map, wNever, scal, V.int.injEq, V.str.injEq, V.bl.injEq, wSq, wNext, wBreak, wCont, wDrop, wRet, wRetN, wIfS, wAsg, wPar, wLstOwn, wAppend, wSetOwn, wIxOwn, wPeek, wRetOwn, wRetFr, wFor, wB, wNot, wAnd, wOr, wAndV, wOrV, wNotV, wIf, wChain, wNil, wCons, wCB, wTup, wLst, wNoPart, wPart, wSlT, wSlL, wSeq, wRng1, wRng2, wZip, wName, wNilT, wConsT, wTupT, wYes, wNeg, wVar, wC, wOp, wcNil, wcCons, wcOwn, wCall, wCallOwn, slots, cellsOf, OwnArgs, putBack, g2I, g2IC, gLen, gAbs, gGcd, gInt1, gTupleOf, gListOf, gIx, gCatT, gCat, gEq, gNe, gIsN, gNotN, scD, seqD_t, seqD_l, seqD_f, isNonD, List.nodup_cons, List.mem_cons, List.not_mem_nil, or_false, not_false_eq_true, Nat.reduceEqDiff, L3.Keeps, ends, wipeD, List.replicate, List.cons_append, List.nil_append, List.append_nil, List.getElem?_cons_zero, List.getElem?_cons_succ, List.set_cons_zero, List.set_cons_succ, List.getD_cons_zero, List.getD_cons_succ, List.length_cons, List.length_nil, List.nodup_nil, Option.some.injEq, Cell.dat.injEq, Cell.own.injEq, Cont.lst.injEq, D.bl.injEq, D.int.injEq, D.str.injEq, D.tup.injEq, D.lst.injEq, Arg.d.injEq, List.cons.injEq, exists_and_left, exists_and_right, exists_eq_left', exists_eq_left, exists_eq_right, exists_eq_right', exists_eq, exists_eq', and_true, true_and, and_assoc, and_self, exists_const, reduceCtorEq, web_wE, web_pE, webD_inj]
    exact hq
theorem ok_nets_by (T : Txt K mg) : FnOk P w K mg base (L2.CX P w) 1 T.f_nets_by T.fd_nets_by ["web", "ran"] (spOf K 2 (fs_nets_by K T.Z)) := by
  refine def_ok T.F_nets_by sc_nets_by (wb := w_nets_by K T.Z) pure_nets_by ?_
  intro cdv A outer s H E hr tk
  exact ⟨_, (pss_cons (ps_setLc (i := 2) (own := [("_", 3)]) (g := (gName 3)) (tt := tYes) (te := (tC (.int 0))) rfl sc_nets_by.nd rfl rfl (sw_true rfl rfl (by rfl) (by rfl)) (pi_seq (pe_fld (pv 0) rfl)) (blkOk_by (N := ["web", "ran", "found", "_", "one", "other", "many"]) (sc := defScope s_nets_by) (by decide +kernel)) (fun _ _ _ _ _ => (pg_name (i := 3) sc_nets_by.nd rfl (by first | exact Or.inl rfl | exact Or.inr rfl))) (fun _ _ _ _ _ => pts_nil) (fun _ _ _ _ _ => pe_int))
      (pss_cons (ps_for (passes_of rfl) rfl (pi_zipK (by rfl) T.z_zip (pa_cons (pe_fld (pv 0) rfl) (pa_cons (pv 1) pa_nil))) (pg_tup (by rfl) (pgs_cons (pg_tup (by rfl) (pgs_cons (pg_name (i := 4) sc_nets_by.nd rfl (by first | exact Or.inl rfl | exact Or.inr rfl)) (pgs_cons (pg_name (i := 5) sc_nets_by.nd rfl (by first | exact Or.inl rfl | exact Or.inr rfl)) (pgs_cons (pg_name (i := 3) sc_nets_by.nd rfl (by first | exact Or.inl rfl | exact Or.inr rfl)) pgs_nil)))) (pgs_cons (pg_name (i := 6) sc_nets_by.nd rfl (by first | exact Or.inl rfl | exact Or.inr rfl)) pgs_nil)))
        (pss_cons (ps_augS (pv 2) (pv 4) get_listN (pv 6) ip_add set_list)
      (pss_one (ps_augS (pv 2) (pv 5) get_listN (pv 6) ip_sub set_list))))
      (pss_one (ps_ret (pe_callTy call_tuple_of (by rfl) T.z_tuple (by decide +kernel) (pa_cons (pv 2) pa_nil)))))),
    (ds_seq (ds_lcOwn (i := 2) (vs := [3]) (wI := (wSeq (wAttr T.Z.C_Web "widths" (wVar 0)))) (wg := (wName 3)) (wt := wYes) (we := (wC (.int 0))) (di_seq (de_fld T.it_Web.cl T.na_Web_widths (de_var 0))) (dg_name 3) dt_yes de_int (by decide))
      (ds_seq (ds_for (wI := (wZipK (wCons (wAttr T.Z.C_Web "pipes" (wVar 0)) (wCons (wVar 1) wNil)))) (wg := (wTupT 2 (wConsT (wTupT 3 (wConsT (wName 4) (wConsT (wName 5) (wConsT (wName 3) wNilT)))) (wConsT (wName 6) wNilT)))) (wb := (wSq (wAugOwn 2 (wVar 4) (wVar 6))
  (wAugSOwn 2 (wVar 5) (wVar 6)))) (di_zipK (da_cons (de_fld T.it_Web.cl T.na_Web_pipes (de_var 0)) (da_cons (de_var 1) da_nil))) (dg_tup (n := 2) (dgs_cons (dg_tup (n := 3) (dgs_cons (dg_name 4) (dgs_cons (dg_name 5) (dgs_cons (dg_name 3) dgs_nil)))) (dgs_cons (dg_name 6) dgs_nil))) (ds_seq (ds_augOwn (i := 2) (de_var 4) (de_var 6))
      (ds_augSOwn (i := 2) (de_var 5) (de_var 6))))
      (ds_ret (de_peek (i := 2) p_tupleOf))))⟩
abbrev s_check_flows : Stmt := topS 33
theorem sc_check_flows : FnScope ["web", "most", "total", "_", "thresholds"] ["web", "most"] (defScope s_check_flows) := ⟨rfl, rfl, rfl, by decide +kernel, rfl, by decide +kernel, by decide +kernel⟩
def l1_check_flows (K : PySem.W.Frag) (Z : CT) : SW := wFor (wSeq (wAttr Z.C_Web "pipes" (wVar 0))) (wTupT 3 (wConsT (wName 3) (wConsT (wName 3) (wConsT (wName 4) wNilT)))) (wSq (wAugVC 2 (wOp gAddI (wOp gMulA (wC (.int 2)) (wCB gLen (wCons (wVar 4) wNil))) (wC (.int 1))))
  (wIfS (wB (wOp gGtI (wVar 2) (wVar 1))) (wRaise1 Z.C_TooMany "most" (wVar 1)) wNext))
def w_check_flows (K : PySem.W.Frag) (Z : CT) : SW := (wSq (wAsg (wC (.int 1)) (wName 2))
  (l1_check_flows K Z))
/-- how many ways the pipes may run -/
def prodF (ds : List D) : Int := (ds.map fun d => match d with | .tup [_, _, .tup st] => 2 * (st.length : Int) + 1 | _ => 1).prod
theorem prodF_snoc {ds : List D} {d : D} : prodF (ds ++ [d]) = prodF ds * prodF [d] := by
  unfold prodF
  rw [List.map_append, List.prod_append]
theorem prodF_one {a b : D} {st : List D} : prodF [.tup [a, b, .tup st]] = 2 * (st.length : Int) + 1 := by
  simp [prodF]
theorem prodF_take {n : Int} {ds : List D} (h : ∀ d ∈ ds, isPi n d = true) : ∀ i, 1 ≤ prodF (ds.take i) ∧ prodF (ds.take i) ≤ prodF ds := by
  have one : ∀ ds : List D, (∀ d ∈ ds, isPi n d = true) → 1 ≤ prodF ds := by
    intro ds
    induction ds with
    | nil => intro _; decide
    | cons d r ih =>
      intro h
      obtain ⟨a, b, l, rfl, _, _, _, hl⟩ := pi_shape (h d (by simp))
      obtain ⟨st, rfl, _⟩ := liW hl
      have i1 := ih fun x hx => h x (by simp [hx])
      have e : prodF (.tup [.int a, .int b, .tup st] :: r) = (2 * (st.length : Int) + 1) * prodF r := by simp [prodF]
      rw [e]
      have := Int.mul_le_mul (show (1 : Int) ≤ 2 * st.length + 1 by omega) i1 (by decide) (by omega)
      omega
  intro i
  have h1 := one (ds.take i) fun d hd => h d (List.mem_of_mem_take hd)
  have h2 := one (ds.drop i) fun d hd => h d (List.mem_of_mem_drop hd)
  refine ⟨h1, ?_⟩
  have e : prodF ds = prodF (ds.take i) * prodF (ds.drop i) := by
    conv => lhs; rw [← List.take_append_drop i ds]
    unfold prodF
    rw [List.map_append, List.prod_append]
  rw [e]
  have := Int.mul_le_mul (Int.le_refl (prodF (ds.take i))) h2 (by decide) (by omega)
  omega
/-- few ways alone -/
def fs_check_flows (K : PySem.W.Frag) (Z : CT) : FS := fun cs q _ => ∃ us ds m, cs = [.dat (webD Z.C_Web (.tup us) (.tup ds)), .dat (.int m)] ∧ WebV us ds ∧ prodF ds ≤ m ∧ m ≤ 1000000 ∧ q .non cs
theorem pure_check_flows {Z : CT} : PureD 2 3 (fs_check_flows K Z) (w_check_flows K Z) := by
  rintro cs q e - ⟨us, ds, m, rfl, hw, hm, hm2, hq⟩
  have hp := prodF_take hw.2.2
  simp only [w_check_flows, wPeekR, wTor, wSor, wXor, gNotInL, wAugVC, wRetOwnG, wRetSortFr, wExtend, gMaxT, gMinT, wAppendB, gRepT1, wFrzD, dcOf, wKeys, wDGet, wDIn, wDkNew, wDtNew, wDlNew, wLate, wPopAt, wIsiT, wRepOwn, gRepL, wAugSOwn, wListRgOwn, wZipK3, gRepT, wCountB, wIndexB, wIsiOwn, wPeekL, wCallFr, wStar, wSortSet, wTryAs, wIsE, offE, wListRg1, wListRg2, wRngDown, wZipK, gInL, gNotInT, wCatOwn, gIsB, gNotB, D.adr.injEq, Cont.pool.injEq, ixN31, ne_eq, List.map_cons, List.map_nil, wPoolOpen, wPoolClose, wPop0, wPopTo, wListOwn, wRemove, wRaise0, wRaise1, wAugOwn, wEnumL, wTru, wSlA, gCatA, gLtT, gLeT, wFrz, wChain3, wAttr, wMkF, wEnumT, wRevT, wDict0, wDict1, numD3, Nat.reduceAdd, atI0, atI1, atI2, atI3, atI4, ixN51, ixN52, ixN53, List.length_map, wNever, scal, V.int.injEq, V.str.injEq, V.bl.injEq, wSq, wNext, wBreak, wCont, wDrop, wRet, wRetN, wIfS, wAsg, wPar, wLstOwn, wAppend, wSetOwn, wIxOwn, wPeek, wRetOwn, wRetFr, wFor, wB, wNot, wAnd, wOr, wAndV, wOrV, wNotV, wIf, wChain, wNil, wCons, wCB, wTup, wLst, wNoPart, wPart, wSlT, wSlL, wSeq, wRng1, wRng2, wZip, wName, wNilT, wConsT, wTupT, wYes, wNeg, wVar, wC, wOp, wcNil, wcCons, wcOwn, wCall, wCallOwn, slots, cellsOf, OwnArgs, putBack, g2I, g2IC, gLen, gAbs, gGcd, gInt1, gTupleOf, gListOf, gIx, gCatT, gCat, gEq, gNe, gIsN, gNotN, scD, seqD_t, seqD_l, seqD_f, isNonD, List.nodup_cons, List.mem_cons, List.not_mem_nil, or_false, not_false_eq_true, Nat.reduceEqDiff, L3.Keeps, ends, wipeD, List.replicate, List.cons_append, List.nil_append, List.append_nil, List.getElem?_cons_zero, List.getElem?_cons_succ, List.set_cons_zero, List.set_cons_succ, List.getD_cons_zero, List.getD_cons_succ, List.length_cons, List.length_nil, List.nodup_nil, Option.some.injEq, Cell.dat.injEq, Cell.own.injEq, Cont.lst.injEq, D.bl.injEq, D.int.injEq, D.str.injEq, D.tup.injEq, D.lst.injEq, Arg.d.injEq, List.cons.injEq, exists_and_left, exists_and_right, exists_eq_left', exists_eq_left, exists_eq_right, exists_eq_right', exists_eq, exists_eq', and_true, true_and, and_assoc, and_self, exists_const, reduceCtorEq, web_wE, web_pE, webD_inj]
  unfold l1_check_flows wFor
  simp only [seqD_t, wPeekR, wTor, wSor, wXor, gNotInL, wAugVC, wRetOwnG, wRetSortFr, wExtend, gMaxT, gMinT, wAppendB, gRepT1, wFrzD, dcOf, wKeys, wDGet, wDIn, wDkNew, wDtNew, wDlNew, wLate, wPopAt, wIsiT, wRepOwn, gRepL, wAugSOwn, wListRgOwn, wZipK3, gRepT, wCountB, wIndexB, wIsiOwn, wPeekL, wCallFr, wStar, wSortSet, wTryAs, wIsE, offE, wListRg1, wListRg2, wRngDown, wZipK, gInL, gNotInT, wCatOwn, gIsB, gNotB, D.adr.injEq, Cont.pool.injEq, ixN31, ne_eq, List.map_cons, List.map_nil, wPoolOpen, wPoolClose, wPop0, wPopTo, wListOwn, wRemove, wRaise0, wRaise1, wAugOwn, wEnumL, wTru, wSlA, gCatA, gLtT, gLeT, wFrz, wChain3, wAttr, wMkF, wEnumT, wRevT, wDict0, wDict1, numD3, Nat.reduceAdd, atI0, atI1, atI2, atI3, atI4, ixN51, ixN52, ixN53, List.length_map, wNever, scal, V.int.injEq, V.str.injEq, V.bl.injEq, wSq, wNext, wBreak, wCont, wDrop, wRet, wRetN, wIfS, wAsg, wPar, wLstOwn, wAppend, wSetOwn, wIxOwn, wPeek, wRetOwn, wRetFr, wFor, wB, wNot, wAnd, wOr, wAndV, wOrV, wNotV, wIf, wChain, wNil, wCons, wCB, wTup, wLst, wNoPart, wPart, wSlT, wSlL, wSeq, wRng1, wRng2, wZip, wName, wNilT, wConsT, wTupT, wYes, wNeg, wVar, wC, wOp, wcNil, wcCons, wcOwn, wCall, wCallOwn, slots, cellsOf, OwnArgs, putBack, g2I, g2IC, gLen, gAbs, gGcd, gInt1, gTupleOf, gListOf, gIx, gCatT, gCat, gEq, gNe, gIsN, gNotN, scD, seqD_t, seqD_l, seqD_f, isNonD, List.nodup_cons, List.mem_cons, List.not_mem_nil, or_false, not_false_eq_true, Nat.reduceEqDiff, L3.Keeps, ends, wipeD, List.replicate, List.cons_append, List.nil_append, List.append_nil, List.getElem?_cons_zero, List.getElem?_cons_succ, List.set_cons_zero, List.set_cons_succ, List.getD_cons_zero, List.getD_cons_succ, List.length_cons, List.length_nil, List.nodup_nil, Option.some.injEq, Cell.dat.injEq, Cell.own.injEq, Cont.lst.injEq, D.bl.injEq, D.int.injEq, D.str.injEq, D.tup.injEq, D.lst.injEq, Arg.d.injEq, List.cons.injEq, exists_and_left, exists_and_right, exists_eq_left', exists_eq_left, exists_eq_right, exists_eq_right', exists_eq, exists_eq', and_true, true_and, and_assoc, and_self, exists_const, reduceCtorEq, web_wE, web_pE, webD_inj]
  refine ⟨fun i τ => ∃ c3 c4, τ = [.dat (webD Z.C_Web (.tup us) (.tup ds)), .dat (.int m), .dat (.int (prodF (ds.take i))), c3, c4], ⟨_, _, rfl⟩, ?_, ?_⟩
  · rintro i d τ2 hi ⟨c3, c4, rfl⟩
    have hi : ds[i]? = some d := hi
    have tk := take_snoc hi
    have hp1 := hp (i + 1)
    rw [tk, prodF_snoc] at hp1
    obtain ⟨a, b, l, rfl, a0, ab, bn, hl⟩ := pi_shape (hw.2.2 d (List.mem_of_getElem? hi))
    obtain ⟨st, rfl, _, l6, _⟩ := liW hl
    rw [prodF_one] at hp1
    simp only [seqD_t, tk, prodF_snoc, prodF_one, wPeekR, wTor, wSor, wXor, gNotInL, wAugVC, wRetOwnG, wRetSortFr, wExtend, gMaxT, gMinT, wAppendB, gRepT1, wFrzD, dcOf, wKeys, wDGet, wDIn, wDkNew, wDtNew, wDlNew, wLate, wPopAt, wIsiT, wRepOwn, gRepL, wAugSOwn, wListRgOwn, wZipK3, gRepT, wCountB, wIndexB, wIsiOwn, wPeekL, wCallFr, wStar, wSortSet, wTryAs, wIsE, offE, wListRg1, wListRg2, wRngDown, wZipK, gInL, gNotInT, wCatOwn, gIsB, gNotB, D.adr.injEq, Cont.pool.injEq, ixN31, ne_eq, List.map_cons, List.map_nil, wPoolOpen, wPoolClose, wPop0, wPopTo, wListOwn, wRemove, wRaise0, wRaise1, wAugOwn, wEnumL, wTru, wSlA, gCatA, gLtT, gLeT, wFrz, wChain3, wAttr, wMkF, wEnumT, wRevT, wDict0, wDict1, numD3, Nat.reduceAdd, atI0, atI1, atI2, atI3, atI4, ixN51, ixN52, ixN53, List.length_map, wNever, scal, V.int.injEq, V.str.injEq, V.bl.injEq, wSq, wNext, wBreak, wCont, wDrop, wRet, wRetN, wIfS, wAsg, wPar, wLstOwn, wAppend, wSetOwn, wIxOwn, wPeek, wRetOwn, wRetFr, wFor, wB, wNot, wAnd, wOr, wAndV, wOrV, wNotV, wIf, wChain, wNil, wCons, wCB, wTup, wLst, wNoPart, wPart, wSlT, wSlL, wSeq, wRng1, wRng2, wZip, wName, wNilT, wConsT, wTupT, wYes, wNeg, wVar, wC, wOp, wcNil, wcCons, wcOwn, wCall, wCallOwn, slots, cellsOf, OwnArgs, putBack, g2I, g2IC, gLen, gAbs, gGcd, gInt1, gTupleOf, gListOf, gIx, gCatT, gCat, gEq, gNe, gIsN, gNotN, scD, seqD_t, seqD_l, seqD_f, isNonD, List.nodup_cons, List.mem_cons, List.not_mem_nil, or_false, not_false_eq_true, Nat.reduceEqDiff, L3.Keeps, ends, wipeD, List.replicate, List.cons_append, List.nil_append, List.append_nil, List.getElem?_cons_zero, List.getElem?_cons_succ, List.set_cons_zero, List.set_cons_succ, List.getD_cons_zero, List.getD_cons_succ, List.length_cons, List.length_nil, List.nodup_nil, Option.some.injEq, Cell.dat.injEq, Cell.own.injEq, Cont.lst.injEq, D.bl.injEq, D.int.injEq, D.str.injEq, D.tup.injEq, D.lst.injEq, Arg.d.injEq, List.cons.injEq, exists_and_left, exists_and_right, exists_eq_left', exists_eq_left, exists_eq_right, exists_eq_right', exists_eq, exists_eq', and_true, true_and, and_assoc, and_self, exists_const, reduceCtorEq, web_wE, web_pE, webD_inj]
    exact ⟨cmul_l (by decide) (by decide), cmul_r (by omega) (by omega), fun z => absurd (of_decide_eq_true z) (by omega), fun _ => trivial⟩
  · rintro τ2 ⟨c3, c4, rfl⟩
    simp only [wPeekR, wTor, wSor, wXor, gNotInL, wAugVC, wRetOwnG, wRetSortFr, wExtend, gMaxT, gMinT, wAppendB, gRepT1, wFrzD, dcOf, wKeys, wDGet, wDIn, wDkNew, wDtNew, wDlNew, wLate, wPopAt, wIsiT, wRepOwn, gRepL, wAugSOwn, wListRgOwn, wZipK3, gRepT, wCountB, wIndexB, wIsiOwn, wPeekL, wCallFr, wStar, wSortSet, wTryAs, wIsE, offE, wListRg1, wListRg2, wRngDown, wZipK, gInL, gNotInT, wCatOwn, gIsB, gNotB, D.adr.injEq, Cont.pool.injEq, ixN31, ne_eq, List.map_cons, List.map_nil, wPoolOpen, wPoolClose, wPop0, wPopTo, wListOwn, wRemove, wRaise0, wRaise1, wAugOwn, wEnumL, wTru, wSlA, gCatA, gLtT, gLeT, wFrz, wChain3, wAttr, wMkF, wEnumT, wRevT, wDict0, wDict1, numD3, Nat.reduceAdd, atI0, atI1, atI2, atI3, atI4, ixN51, ixN52, ixN53, List.length_map, wNever, scal, V.int.injEq, V.str.injEq, V.bl.injEq, wSq, wNext, wBreak, wCont, wDrop, wRet, wRetN, wIfS, wAsg, wPar, wLstOwn, wAppend, wSetOwn, wIxOwn, wPeek, wRetOwn, wRetFr, wFor, wB, wNot, wAnd, wOr, wAndV, wOrV, wNotV, wIf, wChain, wNil, wCons, wCB, wTup, wLst, wNoPart, wPart, wSlT, wSlL, wSeq, wRng1, wRng2, wZip, wName, wNilT, wConsT, wTupT, wYes, wNeg, wVar, wC, wOp, wcNil, wcCons, wcOwn, wCall, wCallOwn, slots, cellsOf, OwnArgs, putBack, g2I, g2IC, gLen, gAbs, gGcd, gInt1, gTupleOf, gListOf, gIx, gCatT, gCat, gEq, gNe, gIsN, gNotN, scD, seqD_t, seqD_l, seqD_f, isNonD, List.nodup_cons, List.mem_cons, List.not_mem_nil, or_false, not_false_eq_true, Nat.reduceEqDiff, L3.Keeps, ends, wipeD, List.replicate, List.cons_append, List.nil_append, List.append_nil, List.getElem?_cons_zero, List.getElem?_cons_succ, List.set_cons_zero, List.set_cons_succ, List.getD_cons_zero, List.getD_cons_succ, List.length_cons, List.length_nil, List.nodup_nil, Option.some.injEq, Cell.dat.injEq, Cell.own.injEq, Cont.lst.injEq, D.bl.injEq, D.int.injEq, D.str.injEq, D.tup.injEq, D.lst.injEq, Arg.d.injEq, List.cons.injEq, exists_and_left, exists_and_right, exists_eq_left', exists_eq_left, exists_eq_right, exists_eq_right', exists_eq, exists_eq', and_true, true_and, and_assoc, and_self, exists_const, reduceCtorEq, web_wE, web_pE, webD_inj]
    exact hq
theorem ok_check_flows (T : Txt K mg) : FnOk P w K mg base (L2.CX P w) 3 T.f_check_flows T.fd_check_flows ["web", "most"] (spOf K 2 (fs_check_flows K T.Z)) := by
  refine def_ok T.F_check_flows sc_check_flows (wb := w_check_flows K T.Z) pure_check_flows ?_
  intro cdv A outer s H E hr tk
  exact ⟨_, (pss_cons (ps_set (i := 2) sc_check_flows.nd rfl (by first | exact Or.inl rfl | exact Or.inr rfl) pe_int)
      (pss_one (ps_for (passes_of rfl) rfl (pi_seq (pe_fld (pv 0) rfl)) (pg_tup (by rfl) (pgs_cons (pg_name (i := 3) sc_check_flows.nd rfl (by first | exact Or.inl rfl | exact Or.inr rfl)) (pgs_cons (pg_name (i := 3) sc_check_flows.nd rfl (by first | exact Or.inl rfl | exact Or.inr rfl)) (pgs_cons (pg_name (i := 4) sc_check_flows.nd rfl (by first | exact Or.inl rfl | exact Or.inr rfl)) pgs_nil))))
        (pss_cons (ps_aug (i := 2) sc_check_flows.nd rfl (by first | exact Or.inl rfl | exact Or.inr rfl) (pe_op op_add (pe_op op_mulA pe_int (pe_callB call_len_seq (by rfl) T.z_len (by decide +kernel) (pa_cons (pv 4) pa_nil))) pe_int) ip_mul)
      (pss_one (ps_if (pt_cmpR op_gt (pv 2) (pv 1) (nomark _))
        (pss_one (ps_raise rfl tk (pmk_oex T.ox_TooMany T.xi_TooMany T.xt_TooMany (okx_TooMany T) (hr.mono (by decide : 2 ≤ _)) T.bx_TooMany .nil passL rfl T.gx_TooMany (pa_cons (pv 1) pa_nil))))
        pss_nil)))))),
    (ds_seq (ds_asg de_int (dg_name 2))
      (ds_for (wI := (wSeq (wAttr T.Z.C_Web "pipes" (wVar 0)))) (wg := (wTupT 3 (wConsT (wName 3) (wConsT (wName 3) (wConsT (wName 4) wNilT))))) (wb := (wSq (wAugVC 2 (wOp gAddI (wOp gMulA (wC (.int 2)) (wCB gLen (wCons (wVar 4) wNil))) (wC (.int 1))))
  (wIfS (wB (wOp gGtI (wVar 2) (wVar 1))) (wRaise1 T.Z.C_TooMany "most" (wVar 1)) wNext))) (di_seq (de_fld T.it_Web.cl T.na_Web_pipes (de_var 0))) (dg_tup (n := 3) (dgs_cons (dg_name 3) (dgs_cons (dg_name 3) (dgs_cons (dg_name 4) dgs_nil)))) (ds_seq (ds_augVC (i := 2) (de_op o_add (de_op o_mulA de_int (de_cb o_len (da_cons (de_var 4) da_nil))) de_int))
      (ds_if (dt_B (de_op o_gt (de_var 2) (de_var 1))) (ds_raise1 (C := T.Z.C_TooMany) (f := "most") (de_var 1)) ds_nil))))⟩
abbrev s_all_flows : Stmt := topS 39
theorem sc_all_flows : FnScope ["web", "found", "_", "thresholds", "many", "flows", "ran"] ["web"] (defScope s_all_flows) := ⟨rfl, rfl, rfl, by decide +kernel, rfl, by decide +kernel, by decide +kernel⟩
def c1_all_flows (K : PySem.W.Frag) (Z : CT) : EW := wLc2B (wSeq (wVar 1)) (wName 5) wYes (wRng2 (wCons (wNeg (wVar 4)) (wCons (wOp gAddI (wVar 4) (wC (.int 1))) wNil))) (wName 6) wYes (wTup (wStar (wVar 5) (wCons (wVar 6) wNil))) [5, 6] [6]
def l2_all_flows (K : PySem.W.Frag) (Z : CT) : SW := wFor (wSeq (wAttr Z.C_Web "pipes" (wVar 0))) (wTupT 3 (wConsT (wName 2) (wConsT (wName 2) (wConsT (wName 3) wNilT)))) (wSq (wAsg (wCB gLen (wCons (wVar 3) wNil)) (wName 4))
  (wAsg (c1_all_flows K Z) (wName 1)))
def w_all_flows (K : PySem.W.Frag) (Z : CT) : SW := (wSq (wAsg (wLst (wCons (wTup wNil) wNil)) (wName 1))
  (wSq (l2_all_flows K Z)
  (wRet (wVar 1))))
/-- a run of pipes, one more pipe with n thresholds -/
def oneF (n : Nat) (c : List Int) : List (List Int) := (List.range (2 * n + 1)).map fun j => c ++ [-(n : Int) + (j : Nat)]
def capF (n : Nat) (cl : List (List Int)) : List (List Int) := cl.flatMap (oneF n)
def stN : D → Nat | .tup [_, _, .tup st] => st.length | _ => 0
def allF (ds : List D) : List (List Int) := ds.foldl (fun cl d => capF (stN d) cl) [[]]
def tuI (ms : List Int) : D := .tup (ms.map D.int)
theorem allF_snoc {ds : List D} {d : D} : allF (ds ++ [d]) = capF (stN d) (allF ds) := by
  unfold allF
  rw [List.foldl_append]
  rfl
theorem capF_snoc {n : Nat} {cl : List (List Int)} {c : List Int} : capF n (cl ++ [c]) = capF n cl ++ oneF n c := by
  unfold capF
  rw [List.flatMap_append]
  congr 1
  simp
theorem oneF_snoc (n : Nat) (c : List Int) (j : Nat) : (List.range (j + 1)).map (fun j => c ++ [-(n : Int) + (j : Nat)]) = (List.range j).map (fun j => c ++ [-(n : Int) + (j : Nat)]) ++ [c ++ [-(n : Int) + (j : Nat)]] := by
  rw [List.range_succ, List.map_append]
  rfl
theorem capF_mem {n : Nat} {cl : List (List Int)} {x : List Int} : x ∈ capF n cl ↔ ∃ c ∈ cl, ∃ k : Int, k.natAbs ≤ n ∧ x = c ++ [k] := by
  unfold capF oneF
  rw [List.mem_flatMap]
  constructor
  · rintro ⟨c, hc, hx⟩
    obtain ⟨j, hj, rfl⟩ := List.mem_map.mp hx
    have := List.mem_range.mp hj
    exact ⟨c, hc, _, by omega, rfl⟩
  · rintro ⟨c, hc, k, k0, rfl⟩
    refine ⟨c, hc, List.mem_map.mpr ⟨(k + n).toNat, List.mem_range.mpr (by omega), ?_⟩⟩
    congr 2
    omega
theorem capF_len {n : Nat} : ∀ cl : List (List Int), (capF n cl).length = cl.length * (2 * n + 1)
  | [] => by simp [capF]
  | c :: r => by
    have ih := capF_len (n := n) r
    have e : capF n (c :: r) = oneF n c ++ capF n r := rfl
    have l1 : (oneF n c).length = 2 * n + 1 := by unfold oneF; rw [List.length_map, List.length_range]
    rw [e, List.length_append, ih, l1, List.length_cons, Nat.add_mul]
    omega
theorem snoc_of {α : Type} {l : List α} (h : l ≠ []) : ∃ r x, l = r ++ [x] := ⟨l.dropLast, l.getLast h, (List.dropLast_concat_getLast h).symm⟩
theorem allF_in {ds : List D} {cs : List Int} : cs ∈ allF ds ↔ cs.length = ds.length ∧ ∀ (i : Nat) (c : Int) (d : D), cs[i]? = some c → ds[i]? = some d → c.natAbs ≤ stN d := by
  have key : ∀ (n : Nat) (ds : List D) (cs : List Int), ds.length = n → (cs ∈ allF ds ↔ cs.length = ds.length ∧ ∀ (i : Nat) (c : Int) (d : D), cs[i]? = some c → ds[i]? = some d → c.natAbs ≤ stN d) := by
    intro n
    induction n with
    | zero =>
      intro ds cs h
      have : ds = [] := List.eq_nil_of_length_eq_zero h
      subst this
      constructor
      · intro hc
        have : cs = [] := by simpa [allF] using hc
        subst this
        exact ⟨rfl, fun i c d e => by simp at e⟩
      · rintro ⟨h, _⟩
        have : cs = [] := List.eq_nil_of_length_eq_zero h
        subst this
        simp [allF]
    | succ n ih =>
      intro ds cs h
      obtain ⟨r, d, rfl⟩ := snoc_of (l := ds) (by intro z; rw [z] at h; cases h)
      have hr : r.length = n := by simpa using h
      rw [allF_snoc, capF_mem]
      constructor
      · rintro ⟨c, hc, k, hk, rfl⟩
        obtain ⟨h1, h2⟩ := (ih r c hr).mp hc
        refine ⟨by simp [h1], fun i x e ex ee => ?_⟩
        by_cases hi : i < c.length
        · rw [List.getElem?_append_left hi] at ex
          rw [List.getElem?_append_left (by omega)] at ee
          exact h2 i x e ex ee
        · have hl : i < (c ++ [k]).length := (List.getElem?_eq_some_iff.mp ex).1
          have : i = c.length := by simp at hl; omega
          subst this
          rw [h1, List.getElem?_concat_length] at ee
          rw [List.getElem?_concat_length] at ex
          cases ex; cases ee
          exact hk
      · rintro ⟨h1, h2⟩
        have ne : cs ≠ [] := by intro z; rw [z] at h1; simp at h1
        obtain ⟨c, k, rfl⟩ := snoc_of ne
        have hc : c.length = r.length := by simpa using h1
        refine ⟨c, (ih r c hr).mpr ⟨hc, fun i x e ex ee => ?_⟩, k, h2 c.length k d (List.getElem?_concat_length) (by rw [hc]; exact List.getElem?_concat_length), rfl⟩
        have i1 := (List.getElem?_eq_some_iff.mp ex).1
        exact h2 i x e (by rw [List.getElem?_append_left i1]; exact ex) (by rw [List.getElem?_append_left (by omega)]; exact ee)
  exact key ds.length ds cs rfl
theorem allF_len {n : Int} {ds : List D} (h : ∀ d ∈ ds, isPi n d = true) : ∀ i, i ≤ ds.length → ((allF (ds.take i)).length : Int) = prodF (ds.take i)
  | 0, _ => by simp [allF, prodF]
  | i + 1, hi => by
    have e1 : ds[i]? = some ds[i] := List.getElem?_eq_getElem (by omega)
    rw [take_snoc e1, allF_snoc, capF_len, prodF_snoc, Int.natCast_mul, allF_len h i (by omega)]
    obtain ⟨a, b, l, e2, _, _, _, hl⟩ := pi_shape (h ds[i] (List.getElem_mem _))
    obtain ⟨st, rfl, _⟩ := liW hl
    rw [e2, prodF_one]
    simp [stN]
def fs_all_flows (K : PySem.W.Frag) (Z : CT) : FS := fun cs q _ => ∃ us ds, cs = [.dat (webD Z.C_Web (.tup us) (.tup ds))] ∧ WebV us ds ∧ prodF ds ≤ 5000 ∧ q (.lst ((allF ds).map tuI)) cs
theorem c1_all_flows_ok {Z : CT} {w : D} {c2 c3 c5 c6 : Cell} {cl : List (List Int)} {n : Nat} {q : D → List Cell → Prop} {e : Xn → List Cell → Prop} (h6 : n ≤ 6) (hc : ∀ c ∈ cl, c.length < 1000) (hl : cl.length ≤ 5000)
    (hq : q (.lst ((capF n cl).map tuI)) [.dat w, .dat (.lst (cl.map tuI)), c2, c3, .dat (.int (n : Nat)), .any, .any]) :
    c1_all_flows K Z [.dat w, .dat (.lst (cl.map tuI)), c2, c3, .dat (.int (n : Nat)), c5, c6] q e := by
  unfold c1_all_flows wLc2B
  simp only [seqD_l, wPeekR, wTor, wSor, wXor, gNotInL, wAugVC, wRetOwnG, wRetSortFr, wExtend, gMaxT, gMinT, wAppendB, gRepT1, wFrzD, dcOf, wKeys, wDGet, wDIn, wDkNew, wDtNew, wDlNew, wLate, wPopAt, wIsiT, wRepOwn, gRepL, wAugSOwn, wListRgOwn, wZipK3, gRepT, wCountB, wIndexB, wIsiOwn, wPeekL, wCallFr, wStar, wSortSet, wTryAs, wIsE, offE, wListRg1, wListRg2, wRngDown, wZipK, gInL, gNotInT, wCatOwn, gIsB, gNotB, D.adr.injEq, Cont.pool.injEq, ixN31, ne_eq, List.map_cons, List.map_nil, wPoolOpen, wPoolClose, wPop0, wPopTo, wListOwn, wRemove, wRaise0, wRaise1, wAugOwn, wEnumL, wTru, wSlA, gCatA, gLtT, gLeT, wFrz, wChain3, wAttr, wMkF, wEnumT, wRevT, wDict0, wDict1, numD3, Nat.reduceAdd, atI0, atI1, atI2, atI3, atI4, ixN51, ixN52, ixN53, List.length_map, wNever, scal, V.int.injEq, V.str.injEq, V.bl.injEq, wSq, wNext, wBreak, wCont, wDrop, wRet, wRetN, wIfS, wAsg, wPar, wLstOwn, wAppend, wSetOwn, wIxOwn, wPeek, wRetOwn, wRetFr, wFor, wB, wNot, wAnd, wOr, wAndV, wOrV, wNotV, wIf, wChain, wNil, wCons, wCB, wTup, wLst, wNoPart, wPart, wSlT, wSlL, wSeq, wRng1, wRng2, wZip, wName, wNilT, wConsT, wTupT, wYes, wNeg, wVar, wC, wOp, wcNil, wcCons, wcOwn, wCall, wCallOwn, slots, cellsOf, OwnArgs, putBack, g2I, g2IC, gLen, gAbs, gGcd, gInt1, gTupleOf, gListOf, gIx, gCatT, gCat, gEq, gNe, gIsN, gNotN, scD, seqD_t, seqD_l, seqD_f, isNonD, List.nodup_cons, List.mem_cons, List.not_mem_nil, or_false, not_false_eq_true, Nat.reduceEqDiff, L3.Keeps, ends, wipeD, List.replicate, List.cons_append, List.nil_append, List.append_nil, List.getElem?_cons_zero, List.getElem?_cons_succ, List.set_cons_zero, List.set_cons_succ, List.getD_cons_zero, List.getD_cons_succ, List.length_cons, List.length_nil, List.nodup_nil, Option.some.injEq, Cell.dat.injEq, Cell.own.injEq, Cont.lst.injEq, D.bl.injEq, D.int.injEq, D.str.injEq, D.tup.injEq, D.lst.injEq, Arg.d.injEq, List.cons.injEq, exists_and_left, exists_and_right, exists_eq_left', exists_eq_left, exists_eq_right, exists_eq_right', exists_eq, exists_eq', and_true, true_and, and_assoc, and_self, exists_const, reduceCtorEq, web_wE, web_pE, webD_inj]
  refine ⟨fun k acc τ => acc = (capF n (cl.take k)).map tuI ∧ τ = [.dat w, .dat (.lst (cl.map tuI)), c2, c3, .dat (.int (n : Nat)), .any, .any], ⟨rfl, rfl⟩, ?_, ?_⟩
  · rintro k d acc τ2 hd ⟨rfl, rfl⟩
    rw [List.getElem?_map] at hd
    obtain ⟨c, ec, rfl⟩ := Option.map_eq_some_iff.mp hd
    have hcc := hc c (List.mem_of_getElem? ec)
    have tk : cl.take (k + 1) = cl.take k ++ [c] := by rw [List.take_add_one, ec]; rfl
    simp only [tuI, wPeekR, wTor, wSor, wXor, gNotInL, wAugVC, wRetOwnG, wRetSortFr, wExtend, gMaxT, gMinT, wAppendB, gRepT1, wFrzD, dcOf, wKeys, wDGet, wDIn, wDkNew, wDtNew, wDlNew, wLate, wPopAt, wIsiT, wRepOwn, gRepL, wAugSOwn, wListRgOwn, wZipK3, gRepT, wCountB, wIndexB, wIsiOwn, wPeekL, wCallFr, wStar, wSortSet, wTryAs, wIsE, offE, wListRg1, wListRg2, wRngDown, wZipK, gInL, gNotInT, wCatOwn, gIsB, gNotB, D.adr.injEq, Cont.pool.injEq, ixN31, ne_eq, List.map_cons, List.map_nil, wPoolOpen, wPoolClose, wPop0, wPopTo, wListOwn, wRemove, wRaise0, wRaise1, wAugOwn, wEnumL, wTru, wSlA, gCatA, gLtT, gLeT, wFrz, wChain3, wAttr, wMkF, wEnumT, wRevT, wDict0, wDict1, numD3, Nat.reduceAdd, atI0, atI1, atI2, atI3, atI4, ixN51, ixN52, ixN53, List.length_map, wNever, scal, V.int.injEq, V.str.injEq, V.bl.injEq, wSq, wNext, wBreak, wCont, wDrop, wRet, wRetN, wIfS, wAsg, wPar, wLstOwn, wAppend, wSetOwn, wIxOwn, wPeek, wRetOwn, wRetFr, wFor, wB, wNot, wAnd, wOr, wAndV, wOrV, wNotV, wIf, wChain, wNil, wCons, wCB, wTup, wLst, wNoPart, wPart, wSlT, wSlL, wSeq, wRng1, wRng2, wZip, wName, wNilT, wConsT, wTupT, wYes, wNeg, wVar, wC, wOp, wcNil, wcCons, wcOwn, wCall, wCallOwn, slots, cellsOf, OwnArgs, putBack, g2I, g2IC, gLen, gAbs, gGcd, gInt1, gTupleOf, gListOf, gIx, gCatT, gCat, gEq, gNe, gIsN, gNotN, scD, seqD_t, seqD_l, seqD_f, isNonD, List.nodup_cons, List.mem_cons, List.not_mem_nil, or_false, not_false_eq_true, Nat.reduceEqDiff, L3.Keeps, ends, wipeD, List.replicate, List.cons_append, List.nil_append, List.append_nil, List.getElem?_cons_zero, List.getElem?_cons_succ, List.set_cons_zero, List.set_cons_succ, List.getD_cons_zero, List.getD_cons_succ, List.length_cons, List.length_nil, List.nodup_nil, Option.some.injEq, Cell.dat.injEq, Cell.own.injEq, Cont.lst.injEq, D.bl.injEq, D.int.injEq, D.str.injEq, D.tup.injEq, D.lst.injEq, Arg.d.injEq, List.cons.injEq, exists_and_left, exists_and_right, exists_eq_left', exists_eq_left, exists_eq_right, exists_eq_right', exists_eq, exists_eq', and_true, true_and, and_assoc, and_self, exists_const, reduceCtorEq, web_wE, web_pE, webD_inj]
    refine ⟨fun _ => ⟨by omega, by omega, by omega, by omega, fun j acc1 τ => acc1 = (capF n (cl.take k) ++ (List.range j).map fun j => c ++ [-(n : Int) + (j : Nat)]).map tuI ∧ τ = [.dat w, .dat (.lst (cl.map tuI)), c2, c3, .dat (.int (n : Nat)), .dat (tuI c), .any], ⟨by simp [tuI], rfl⟩, ?_, ?_⟩, fun z => z.elim⟩
    · rintro j d acc1 τ6 hd ⟨rfl, rfl⟩
      have hj := (List.getElem?_eq_some_iff.mp hd).1
      rw [rangeD_length] at hj
      rw [rangeD_get hj] at hd
      cases hd
      simp only [tuI, seqD_t, wPeekR, wTor, wSor, wXor, gNotInL, wAugVC, wRetOwnG, wRetSortFr, wExtend, gMaxT, gMinT, wAppendB, gRepT1, wFrzD, dcOf, wKeys, wDGet, wDIn, wDkNew, wDtNew, wDlNew, wLate, wPopAt, wIsiT, wRepOwn, gRepL, wAugSOwn, wListRgOwn, wZipK3, gRepT, wCountB, wIndexB, wIsiOwn, wPeekL, wCallFr, wStar, wSortSet, wTryAs, wIsE, offE, wListRg1, wListRg2, wRngDown, wZipK, gInL, gNotInT, wCatOwn, gIsB, gNotB, D.adr.injEq, Cont.pool.injEq, ixN31, ne_eq, List.map_cons, List.map_nil, wPoolOpen, wPoolClose, wPop0, wPopTo, wListOwn, wRemove, wRaise0, wRaise1, wAugOwn, wEnumL, wTru, wSlA, gCatA, gLtT, gLeT, wFrz, wChain3, wAttr, wMkF, wEnumT, wRevT, wDict0, wDict1, numD3, Nat.reduceAdd, atI0, atI1, atI2, atI3, atI4, ixN51, ixN52, ixN53, List.length_map, wNever, scal, V.int.injEq, V.str.injEq, V.bl.injEq, wSq, wNext, wBreak, wCont, wDrop, wRet, wRetN, wIfS, wAsg, wPar, wLstOwn, wAppend, wSetOwn, wIxOwn, wPeek, wRetOwn, wRetFr, wFor, wB, wNot, wAnd, wOr, wAndV, wOrV, wNotV, wIf, wChain, wNil, wCons, wCB, wTup, wLst, wNoPart, wPart, wSlT, wSlL, wSeq, wRng1, wRng2, wZip, wName, wNilT, wConsT, wTupT, wYes, wNeg, wVar, wC, wOp, wcNil, wcCons, wcOwn, wCall, wCallOwn, slots, cellsOf, OwnArgs, putBack, g2I, g2IC, gLen, gAbs, gGcd, gInt1, gTupleOf, gListOf, gIx, gCatT, gCat, gEq, gNe, gIsN, gNotN, scD, seqD_t, seqD_l, seqD_f, isNonD, List.nodup_cons, List.mem_cons, List.not_mem_nil, or_false, not_false_eq_true, Nat.reduceEqDiff, L3.Keeps, ends, wipeD, List.replicate, List.cons_append, List.nil_append, List.append_nil, List.getElem?_cons_zero, List.getElem?_cons_succ, List.set_cons_zero, List.set_cons_succ, List.getD_cons_zero, List.getD_cons_succ, List.length_cons, List.length_nil, List.nodup_nil, Option.some.injEq, Cell.dat.injEq, Cell.own.injEq, Cont.lst.injEq, D.bl.injEq, D.int.injEq, D.str.injEq, D.tup.injEq, D.lst.injEq, Arg.d.injEq, List.cons.injEq, exists_and_left, exists_and_right, exists_eq_left', exists_eq_left, exists_eq_right, exists_eq_right', exists_eq, exists_eq', and_true, true_and, and_assoc, and_self, exists_const, reduceCtorEq, web_wE, web_pE, webD_inj]
      have lk : (capF n (cl.take k)).length ≤ 5000 * 13 := by
        rw [capF_len, List.length_take]
        exact Nat.mul_le_mul (by omega) (by omega)
      refine ⟨fun _ => ⟨by rw [List.length_append, List.length_map, List.length_range]; omega, ?_, ?_⟩, fun z => z.elim⟩
      · rw [List.length_append, List.length_map]; simp; omega
      · rw [oneF_snoc, ← List.append_assoc, List.map_append (l₂ := [_])]
        simp [tuI]
    · rintro acc1 τ6 ⟨h, e⟩
      rw [e]
      rw [rangeD_length] at h
      refine ⟨?_, rfl⟩
      rw [h, tk, capF_snoc]
      have : ((n : Int) + 1 - -(n : Int)).toNat = 2 * n + 1 := by omega
      rw [this]
      rfl
  · rintro acc τ2 ⟨h, e⟩
    rw [e, h, List.take_length]
    exact hq
theorem pure_all_flows {Z : CT} : PureD 1 6 (fs_all_flows K Z) (w_all_flows K Z) := by
  rintro cs q e - ⟨us, ds, rfl, hw, h5, hq⟩
  simp only [w_all_flows, wPeekR, wTor, wSor, wXor, gNotInL, wAugVC, wRetOwnG, wRetSortFr, wExtend, gMaxT, gMinT, wAppendB, gRepT1, wFrzD, dcOf, wKeys, wDGet, wDIn, wDkNew, wDtNew, wDlNew, wLate, wPopAt, wIsiT, wRepOwn, gRepL, wAugSOwn, wListRgOwn, wZipK3, gRepT, wCountB, wIndexB, wIsiOwn, wPeekL, wCallFr, wStar, wSortSet, wTryAs, wIsE, offE, wListRg1, wListRg2, wRngDown, wZipK, gInL, gNotInT, wCatOwn, gIsB, gNotB, D.adr.injEq, Cont.pool.injEq, ixN31, ne_eq, List.map_cons, List.map_nil, wPoolOpen, wPoolClose, wPop0, wPopTo, wListOwn, wRemove, wRaise0, wRaise1, wAugOwn, wEnumL, wTru, wSlA, gCatA, gLtT, gLeT, wFrz, wChain3, wAttr, wMkF, wEnumT, wRevT, wDict0, wDict1, numD3, Nat.reduceAdd, atI0, atI1, atI2, atI3, atI4, ixN51, ixN52, ixN53, List.length_map, wNever, scal, V.int.injEq, V.str.injEq, V.bl.injEq, wSq, wNext, wBreak, wCont, wDrop, wRet, wRetN, wIfS, wAsg, wPar, wLstOwn, wAppend, wSetOwn, wIxOwn, wPeek, wRetOwn, wRetFr, wFor, wB, wNot, wAnd, wOr, wAndV, wOrV, wNotV, wIf, wChain, wNil, wCons, wCB, wTup, wLst, wNoPart, wPart, wSlT, wSlL, wSeq, wRng1, wRng2, wZip, wName, wNilT, wConsT, wTupT, wYes, wNeg, wVar, wC, wOp, wcNil, wcCons, wcOwn, wCall, wCallOwn, slots, cellsOf, OwnArgs, putBack, g2I, g2IC, gLen, gAbs, gGcd, gInt1, gTupleOf, gListOf, gIx, gCatT, gCat, gEq, gNe, gIsN, gNotN, scD, seqD_t, seqD_l, seqD_f, isNonD, List.nodup_cons, List.mem_cons, List.not_mem_nil, or_false, not_false_eq_true, Nat.reduceEqDiff, L3.Keeps, ends, wipeD, List.replicate, List.cons_append, List.nil_append, List.append_nil, List.getElem?_cons_zero, List.getElem?_cons_succ, List.set_cons_zero, List.set_cons_succ, List.getD_cons_zero, List.getD_cons_succ, List.length_cons, List.length_nil, List.nodup_nil, Option.some.injEq, Cell.dat.injEq, Cell.own.injEq, Cont.lst.injEq, D.bl.injEq, D.int.injEq, D.str.injEq, D.tup.injEq, D.lst.injEq, Arg.d.injEq, List.cons.injEq, exists_and_left, exists_and_right, exists_eq_left', exists_eq_left, exists_eq_right, exists_eq_right', exists_eq, exists_eq', and_true, true_and, and_assoc, and_self, exists_const, reduceCtorEq, web_wE, web_pE, webD_inj]
  unfold l2_all_flows wFor
  simp only [seqD_t, wPeekR, wTor, wSor, wXor, gNotInL, wAugVC, wRetOwnG, wRetSortFr, wExtend, gMaxT, gMinT, wAppendB, gRepT1, wFrzD, dcOf, wKeys, wDGet, wDIn, wDkNew, wDtNew, wDlNew, wLate, wPopAt, wIsiT, wRepOwn, gRepL, wAugSOwn, wListRgOwn, wZipK3, gRepT, wCountB, wIndexB, wIsiOwn, wPeekL, wCallFr, wStar, wSortSet, wTryAs, wIsE, offE, wListRg1, wListRg2, wRngDown, wZipK, gInL, gNotInT, wCatOwn, gIsB, gNotB, D.adr.injEq, Cont.pool.injEq, ixN31, ne_eq, List.map_cons, List.map_nil, wPoolOpen, wPoolClose, wPop0, wPopTo, wListOwn, wRemove, wRaise0, wRaise1, wAugOwn, wEnumL, wTru, wSlA, gCatA, gLtT, gLeT, wFrz, wChain3, wAttr, wMkF, wEnumT, wRevT, wDict0, wDict1, numD3, Nat.reduceAdd, atI0, atI1, atI2, atI3, atI4, ixN51, ixN52, ixN53, List.length_map, wNever, scal, V.int.injEq, V.str.injEq, V.bl.injEq, wSq, wNext, wBreak, wCont, wDrop, wRet, wRetN, wIfS, wAsg, wPar, wLstOwn, wAppend, wSetOwn, wIxOwn, wPeek, wRetOwn, wRetFr, wFor, wB, wNot, wAnd, wOr, wAndV, wOrV, wNotV, wIf, wChain, wNil, wCons, wCB, wTup, wLst, wNoPart, wPart, wSlT, wSlL, wSeq, wRng1, wRng2, wZip, wName, wNilT, wConsT, wTupT, wYes, wNeg, wVar, wC, wOp, wcNil, wcCons, wcOwn, wCall, wCallOwn, slots, cellsOf, OwnArgs, putBack, g2I, g2IC, gLen, gAbs, gGcd, gInt1, gTupleOf, gListOf, gIx, gCatT, gCat, gEq, gNe, gIsN, gNotN, scD, seqD_t, seqD_l, seqD_f, isNonD, List.nodup_cons, List.mem_cons, List.not_mem_nil, or_false, not_false_eq_true, Nat.reduceEqDiff, L3.Keeps, ends, wipeD, List.replicate, List.cons_append, List.nil_append, List.append_nil, List.getElem?_cons_zero, List.getElem?_cons_succ, List.set_cons_zero, List.set_cons_succ, List.getD_cons_zero, List.getD_cons_succ, List.length_cons, List.length_nil, List.nodup_nil, Option.some.injEq, Cell.dat.injEq, Cell.own.injEq, Cont.lst.injEq, D.bl.injEq, D.int.injEq, D.str.injEq, D.tup.injEq, D.lst.injEq, Arg.d.injEq, List.cons.injEq, exists_and_left, exists_and_right, exists_eq_left', exists_eq_left, exists_eq_right, exists_eq_right', exists_eq, exists_eq', and_true, true_and, and_assoc, and_self, exists_const, reduceCtorEq, web_wE, web_pE, webD_inj]
  refine ⟨by decide, by decide, fun i τ => ∃ (c2 c3 c4 : Cell), τ = [.dat (webD Z.C_Web (.tup us) (.tup ds)), .dat (.lst ((allF (ds.take i)).map tuI)), c2, c3, c4, .any, .any], ⟨.any, .any, .any, rfl⟩, ?_, ?_⟩
  · rintro i d τ2 hd ⟨c2, c3, c4, rfl⟩
    have hd : ds[i]? = some d := hd
    have hi := (List.getElem?_eq_some_iff.mp hd).1
    have tk := take_snoc hd
    have ln := allF_len hw.2.2 i (by omega)
    have pt := prodF_take hw.2.2 i
    obtain ⟨a, b, l, rfl, a0, ab, bn, hl⟩ := pi_shape (hw.2.2 d (List.mem_of_getElem? hd))
    obtain ⟨st, rfl, _, l6, _⟩ := liW hl
    simp only [seqD_t, wPeekR, wTor, wSor, wXor, gNotInL, wAugVC, wRetOwnG, wRetSortFr, wExtend, gMaxT, gMinT, wAppendB, gRepT1, wFrzD, dcOf, wKeys, wDGet, wDIn, wDkNew, wDtNew, wDlNew, wLate, wPopAt, wIsiT, wRepOwn, gRepL, wAugSOwn, wListRgOwn, wZipK3, gRepT, wCountB, wIndexB, wIsiOwn, wPeekL, wCallFr, wStar, wSortSet, wTryAs, wIsE, offE, wListRg1, wListRg2, wRngDown, wZipK, gInL, gNotInT, wCatOwn, gIsB, gNotB, D.adr.injEq, Cont.pool.injEq, ixN31, ne_eq, List.map_cons, List.map_nil, wPoolOpen, wPoolClose, wPop0, wPopTo, wListOwn, wRemove, wRaise0, wRaise1, wAugOwn, wEnumL, wTru, wSlA, gCatA, gLtT, gLeT, wFrz, wChain3, wAttr, wMkF, wEnumT, wRevT, wDict0, wDict1, numD3, Nat.reduceAdd, atI0, atI1, atI2, atI3, atI4, ixN51, ixN52, ixN53, List.length_map, wNever, scal, V.int.injEq, V.str.injEq, V.bl.injEq, wSq, wNext, wBreak, wCont, wDrop, wRet, wRetN, wIfS, wAsg, wPar, wLstOwn, wAppend, wSetOwn, wIxOwn, wPeek, wRetOwn, wRetFr, wFor, wB, wNot, wAnd, wOr, wAndV, wOrV, wNotV, wIf, wChain, wNil, wCons, wCB, wTup, wLst, wNoPart, wPart, wSlT, wSlL, wSeq, wRng1, wRng2, wZip, wName, wNilT, wConsT, wTupT, wYes, wNeg, wVar, wC, wOp, wcNil, wcCons, wcOwn, wCall, wCallOwn, slots, cellsOf, OwnArgs, putBack, g2I, g2IC, gLen, gAbs, gGcd, gInt1, gTupleOf, gListOf, gIx, gCatT, gCat, gEq, gNe, gIsN, gNotN, scD, seqD_t, seqD_l, seqD_f, isNonD, List.nodup_cons, List.mem_cons, List.not_mem_nil, or_false, not_false_eq_true, Nat.reduceEqDiff, L3.Keeps, ends, wipeD, List.replicate, List.cons_append, List.nil_append, List.append_nil, List.getElem?_cons_zero, List.getElem?_cons_succ, List.set_cons_zero, List.set_cons_succ, List.getD_cons_zero, List.getD_cons_succ, List.length_cons, List.length_nil, List.nodup_nil, Option.some.injEq, Cell.dat.injEq, Cell.own.injEq, Cont.lst.injEq, D.bl.injEq, D.int.injEq, D.str.injEq, D.tup.injEq, D.lst.injEq, Arg.d.injEq, List.cons.injEq, exists_and_left, exists_and_right, exists_eq_left', exists_eq_left, exists_eq_right, exists_eq_right', exists_eq, exists_eq', and_true, true_and, and_assoc, and_self, exists_const, reduceCtorEq, web_wE, web_pE, webD_inj]
    refine c1_all_flows_ok l6 (fun c hc => by have := (allF_in.mp hc).1; rw [this, List.length_take]; have := hw.2.1; omega) (by omega) ⟨.dat (.int b), .dat (.tup st), .dat (.int st.length), ?_⟩
    rw [tk, allF_snoc]
    rfl
  · rintro τ2 ⟨c2, c3, c4, rfl⟩
    simp only [wPeekR, wTor, wSor, wXor, gNotInL, wAugVC, wRetOwnG, wRetSortFr, wExtend, gMaxT, gMinT, wAppendB, gRepT1, wFrzD, dcOf, wKeys, wDGet, wDIn, wDkNew, wDtNew, wDlNew, wLate, wPopAt, wIsiT, wRepOwn, gRepL, wAugSOwn, wListRgOwn, wZipK3, gRepT, wCountB, wIndexB, wIsiOwn, wPeekL, wCallFr, wStar, wSortSet, wTryAs, wIsE, offE, wListRg1, wListRg2, wRngDown, wZipK, gInL, gNotInT, wCatOwn, gIsB, gNotB, D.adr.injEq, Cont.pool.injEq, ixN31, ne_eq, List.map_cons, List.map_nil, wPoolOpen, wPoolClose, wPop0, wPopTo, wListOwn, wRemove, wRaise0, wRaise1, wAugOwn, wEnumL, wTru, wSlA, gCatA, gLtT, gLeT, wFrz, wChain3, wAttr, wMkF, wEnumT, wRevT, wDict0, wDict1, numD3, Nat.reduceAdd, atI0, atI1, atI2, atI3, atI4, ixN51, ixN52, ixN53, List.length_map, wNever, scal, V.int.injEq, V.str.injEq, V.bl.injEq, wSq, wNext, wBreak, wCont, wDrop, wRet, wRetN, wIfS, wAsg, wPar, wLstOwn, wAppend, wSetOwn, wIxOwn, wPeek, wRetOwn, wRetFr, wFor, wB, wNot, wAnd, wOr, wAndV, wOrV, wNotV, wIf, wChain, wNil, wCons, wCB, wTup, wLst, wNoPart, wPart, wSlT, wSlL, wSeq, wRng1, wRng2, wZip, wName, wNilT, wConsT, wTupT, wYes, wNeg, wVar, wC, wOp, wcNil, wcCons, wcOwn, wCall, wCallOwn, slots, cellsOf, OwnArgs, putBack, g2I, g2IC, gLen, gAbs, gGcd, gInt1, gTupleOf, gListOf, gIx, gCatT, gCat, gEq, gNe, gIsN, gNotN, scD, seqD_t, seqD_l, seqD_f, isNonD, List.nodup_cons, List.mem_cons, List.not_mem_nil, or_false, not_false_eq_true, Nat.reduceEqDiff, L3.Keeps, ends, wipeD, List.replicate, List.cons_append, List.nil_append, List.append_nil, List.getElem?_cons_zero, List.getElem?_cons_succ, List.set_cons_zero, List.set_cons_succ, List.getD_cons_zero, List.getD_cons_succ, List.length_cons, List.length_nil, List.nodup_nil, Option.some.injEq, Cell.dat.injEq, Cell.own.injEq, Cont.lst.injEq, D.bl.injEq, D.int.injEq, D.str.injEq, D.tup.injEq, D.lst.injEq, Arg.d.injEq, List.cons.injEq, exists_and_left, exists_and_right, exists_eq_left', exists_eq_left, exists_eq_right, exists_eq_right', exists_eq, exists_eq', and_true, true_and, and_assoc, and_self, exists_const, reduceCtorEq, web_wE, web_pE, webD_inj]
    rw [List.take_length]
    exact hq
theorem ok_all_flows (T : Txt K mg) : FnOk P w K mg base (L2.CX P w) 1 T.f_all_flows T.fd_all_flows ["web"] (spOf K 1 (fs_all_flows K T.Z)) := by
  refine def_ok T.F_all_flows sc_all_flows (wb := w_all_flows K T.Z) pure_all_flows ?_
  intro cdv A outer s H E hr tk
  exact ⟨_, (pss_cons (ps_set (i := 1) sc_all_flows.nd rfl (by first | exact Or.inl rfl | exact Or.inr rfl) (pe_lst (pa_cons (pe_tup pa_nil) pa_nil)))
      (pss_cons (ps_for (passes_of rfl) rfl (pi_seq (pe_fld (pv 0) rfl)) (pg_tup (by rfl) (pgs_cons (pg_name (i := 2) sc_all_flows.nd rfl (by first | exact Or.inl rfl | exact Or.inr rfl)) (pgs_cons (pg_name (i := 2) sc_all_flows.nd rfl (by first | exact Or.inl rfl | exact Or.inr rfl)) (pgs_cons (pg_name (i := 3) sc_all_flows.nd rfl (by first | exact Or.inl rfl | exact Or.inr rfl)) pgs_nil))))
        (pss_cons (ps_set (i := 4) sc_all_flows.nd rfl (by first | exact Or.inl rfl | exact Or.inr rfl) (pe_callB call_len_seq (by rfl) T.z_len (by decide +kernel) (pa_cons (pv 3) pa_nil)))
      (pss_one (ps_setLc2 (i := 1) (own := [("flows", 5), ("ran", 6)]) (vs1 := [6]) (g := (gName 5)) (tt := tYes) (g1 := (gName 6)) (tt1 := tYes) (te := (tTup (StX.tStar K (tVar 5) (tCons (tVar 6) tNil)))) rfl sc_all_flows.nd rfl rfl (sw_true rfl rfl (by rfl) (by rfl)) (pi_seq (pv 1)) (blkOk_by (N := ["web", "found", "_", "thresholds", "many", "flows", "ran"]) (sc := defScope s_all_flows) (by decide +kernel)) (by decide) (fun _ _ _ _ _ => (pg_name (i := 5) sc_all_flows.nd rfl (by first | exact Or.inl rfl | exact Or.inr rfl))) (fun _ _ _ _ _ => pts_nil) (fun _ _ _ _ _ => (pi_range2 (by rfl) T.z_range (pa_cons (pe_un un_neg (pv 4)) (pa_cons (pe_op op_add (pv 4) pe_int) pa_nil)))) (fun _ _ _ _ _ => (pg_name (i := 6) sc_all_flows.nd rfl (by first | exact Or.inl rfl | exact Or.inr rfl))) (fun _ _ _ _ _ => pts_nil) (fun _ _ _ _ _ => (pe_tup (StX.pa_star (pv 5) (pa_cons (pv 6) pa_nil))))))))
      (pss_one (ps_ret (pv 1))))),
    (ds_seq (ds_asg (de_lst (da_cons (de_tup da_nil) da_nil)) (dg_name 1))
      (ds_seq (ds_for (wI := (wSeq (wAttr T.Z.C_Web "pipes" (wVar 0)))) (wg := (wTupT 3 (wConsT (wName 2) (wConsT (wName 2) (wConsT (wName 3) wNilT))))) (wb := (wSq (wAsg (wCB gLen (wCons (wVar 3) wNil)) (wName 4))
  (wAsg (c1_all_flows K T.Z) (wName 1)))) (di_seq (de_fld T.it_Web.cl T.na_Web_pipes (de_var 0))) (dg_tup (n := 3) (dgs_cons (dg_name 2) (dgs_cons (dg_name 2) (dgs_cons (dg_name 3) dgs_nil)))) (ds_seq (ds_asg (de_cb o_len (da_cons (de_var 3) da_nil)) (dg_name 4))
      (ds_asg (de_lc2B (vs := [5, 6]) (vs1 := [6]) (wI := (wSeq (wVar 1))) (wg := (wName 5)) (wt := wYes) (wI1 := (wRng2 (wCons (wNeg (wVar 4)) (wCons (wOp gAddI (wVar 4) (wC (.int 1))) wNil)))) (wg1 := (wName 6)) (wt1 := wYes) (we := (wTup (wStar (wVar 5) (wCons (wVar 6) wNil)))) (di_seq (de_var 1)) (dg_name 5) dt_yes (di_rng2 (da_cons (de_neg (de_var 4)) (da_cons (de_op o_add (de_var 4) de_int) da_nil))) (dg_name 6) dt_yes (de_tup (da_star (de_var 5) (da_cons (de_var 6) da_nil))) (by decide) (by decide) (by decide)) (dg_name 1))))
      (ds_ret (de_var 1))))⟩
abbrev s_in_grains : Stmt := topS 19
theorem sc_in_grains : FnScope ["thresholds", "many", "top", "bottom"] ["thresholds", "many"] (defScope s_in_grains) := ⟨rfl, rfl, rfl, by decide +kernel, rfl, by decide +kernel, by decide +kernel⟩
def c1_in_grains (K : PySem.W.Frag) : EW := wLc (wSeq (wVar 0)) (wTupT 2 (wConsT (wName 2) (wConsT (wName 3) wNilT))) wYes (wOp gDivW (wOp gSubI (wOp gAddI (wOp gMulA (wVar 2) (wVar 1)) (wVar 3)) (wC (.int 1))) (wVar 3)) [2, 3]
def w_in_grains (K : PySem.W.Frag) : SW := (wRet (c1_in_grains K))
def igD (m : Int) : D → D | .tup [.int t, .int b] => .int ((t * m + b - 1) / b) | _ => .non
def fs_in_grains (K : PySem.W.Frag) : FS := fun cs q _ => ∃ (ds : List D) (m : Int), cs = [.dat (.tup ds), .dat (.int m)] ∧ ds.length ≤ 6 ∧ (∀ d ∈ ds, isTh d = true) ∧ 1 ≤ m ∧ m ≤ 132 ∧ q (.lst (ds.map (igD m))) cs
theorem c1_in_grains_ok {ds : List D} {m : Int} {c2 c3 : Cell} {q : D → List Cell → Prop} {e : Xn → List Cell → Prop} (hl : ds.length ≤ 6) (ht : ∀ d ∈ ds, isTh d = true) (m1 : 1 ≤ m) (m2 : m ≤ 132)
    (hq : q (.lst (ds.map (igD m))) [.dat (.tup ds), .dat (.int m), .any, .any]) : c1_in_grains K [.dat (.tup ds), .dat (.int m), c2, c3] q e := by
  unfold c1_in_grains wLc
  refine ⟨_, rfl, ds, rfl, lc_fm (igD m) (fun _ => true) (by omega) (fun d hm k1 k2 h1 _ => ?_) (by rw [filter_true]; exact hq)⟩
  obtain ⟨t, b, rfl, b1, b2, t1, t2⟩ := th_shape (ht d hm)
  simp only [wPeekR, wTor, wSor, wXor, gNotInL, wAugVC, wRetOwnG, wRetSortFr, wExtend, gMaxT, gMinT, wAppendB, gRepT1, wFrzD, dcOf, wKeys, wDGet, wDIn, wDkNew, wDtNew, wDlNew, wLate, wPopAt, wIsiT, wRepOwn, gRepL, wAugSOwn, wListRgOwn, wZipK3, gRepT, wCountB, wIndexB, wIsiOwn, wPeekL, wCallFr, wStar, wSortSet, wTryAs, wIsE, offE, wListRg1, wListRg2, wRngDown, wZipK, gInL, gNotInT, wCatOwn, gIsB, gNotB, D.adr.injEq, Cont.pool.injEq, ixN31, ne_eq, List.map_cons, List.map_nil, wPoolOpen, wPoolClose, wPop0, wPopTo, wListOwn, wRemove, wRaise0, wRaise1, wAugOwn, wEnumL, wTru, wSlA, gCatA, gLtT, gLeT, wFrz, wChain3, wAttr, wMkF, wEnumT, wRevT, wDict0, wDict1, numD3, Nat.reduceAdd, atI0, atI1, atI2, atI3, atI4, ixN51, ixN52, ixN53, List.length_map, wNever, scal, V.int.injEq, V.str.injEq, V.bl.injEq, wSq, wNext, wBreak, wCont, wDrop, wRet, wRetN, wIfS, wAsg, wPar, wLstOwn, wAppend, wSetOwn, wIxOwn, wPeek, wRetOwn, wRetFr, wFor, wB, wNot, wAnd, wOr, wAndV, wOrV, wNotV, wIf, wChain, wNil, wCons, wCB, wTup, wLst, wNoPart, wPart, wSlT, wSlL, wSeq, wRng1, wRng2, wZip, wName, wNilT, wConsT, wTupT, wYes, wNeg, wVar, wC, wOp, wcNil, wcCons, wcOwn, wCall, wCallOwn, slots, cellsOf, OwnArgs, putBack, g2I, g2IC, gLen, gAbs, gGcd, gInt1, gTupleOf, gListOf, gIx, gCatT, gCat, gEq, gNe, gIsN, gNotN, scD, seqD_t, seqD_l, seqD_f, isNonD, List.nodup_cons, List.mem_cons, List.not_mem_nil, or_false, not_false_eq_true, Nat.reduceEqDiff, L3.Keeps, ends, wipeD, List.replicate, List.cons_append, List.nil_append, List.append_nil, List.getElem?_cons_zero, List.getElem?_cons_succ, List.set_cons_zero, List.set_cons_succ, List.getD_cons_zero, List.getD_cons_succ, List.length_cons, List.length_nil, List.nodup_nil, Option.some.injEq, Cell.dat.injEq, Cell.own.injEq, Cont.lst.injEq, D.bl.injEq, D.int.injEq, D.str.injEq, D.tup.injEq, D.lst.injEq, Arg.d.injEq, List.cons.injEq, exists_and_left, exists_and_right, exists_eq_left', exists_eq_left, exists_eq_right, exists_eq_right', exists_eq, exists_eq', and_true, true_and, and_assoc, and_self, exists_const, reduceCtorEq, web_wE, web_pE, webD_inj]
  simp only [true_implies]
  refine ⟨⟨cmul_r (by omega) (by omega), wide_div (b := 40) (by omega) (by omega) (by decide) (by decide), h1 rfl _ rfl⟩, fun z => z.elim⟩
theorem pure_in_grains : PureD 2 2 (fs_in_grains K) (w_in_grains K) := by
  rintro cs q e - ⟨ds, m, rfl, hl, ht, m1, m2, hq⟩
  simp only [w_in_grains, wPeekR, wTor, wSor, wXor, gNotInL, wAugVC, wRetOwnG, wRetSortFr, wExtend, gMaxT, gMinT, wAppendB, gRepT1, wFrzD, dcOf, wKeys, wDGet, wDIn, wDkNew, wDtNew, wDlNew, wLate, wPopAt, wIsiT, wRepOwn, gRepL, wAugSOwn, wListRgOwn, wZipK3, gRepT, wCountB, wIndexB, wIsiOwn, wPeekL, wCallFr, wStar, wSortSet, wTryAs, wIsE, offE, wListRg1, wListRg2, wRngDown, wZipK, gInL, gNotInT, wCatOwn, gIsB, gNotB, D.adr.injEq, Cont.pool.injEq, ixN31, ne_eq, List.map_cons, List.map_nil, wPoolOpen, wPoolClose, wPop0, wPopTo, wListOwn, wRemove, wRaise0, wRaise1, wAugOwn, wEnumL, wTru, wSlA, gCatA, gLtT, gLeT, wFrz, wChain3, wAttr, wMkF, wEnumT, wRevT, wDict0, wDict1, numD3, Nat.reduceAdd, atI0, atI1, atI2, atI3, atI4, ixN51, ixN52, ixN53, List.length_map, wNever, scal, V.int.injEq, V.str.injEq, V.bl.injEq, wSq, wNext, wBreak, wCont, wDrop, wRet, wRetN, wIfS, wAsg, wPar, wLstOwn, wAppend, wSetOwn, wIxOwn, wPeek, wRetOwn, wRetFr, wFor, wB, wNot, wAnd, wOr, wAndV, wOrV, wNotV, wIf, wChain, wNil, wCons, wCB, wTup, wLst, wNoPart, wPart, wSlT, wSlL, wSeq, wRng1, wRng2, wZip, wName, wNilT, wConsT, wTupT, wYes, wNeg, wVar, wC, wOp, wcNil, wcCons, wcOwn, wCall, wCallOwn, slots, cellsOf, OwnArgs, putBack, g2I, g2IC, gLen, gAbs, gGcd, gInt1, gTupleOf, gListOf, gIx, gCatT, gCat, gEq, gNe, gIsN, gNotN, scD, seqD_t, seqD_l, seqD_f, isNonD, List.nodup_cons, List.mem_cons, List.not_mem_nil, or_false, not_false_eq_true, Nat.reduceEqDiff, L3.Keeps, ends, wipeD, List.replicate, List.cons_append, List.nil_append, List.append_nil, List.getElem?_cons_zero, List.getElem?_cons_succ, List.set_cons_zero, List.set_cons_succ, List.getD_cons_zero, List.getD_cons_succ, List.length_cons, List.length_nil, List.nodup_nil, Option.some.injEq, Cell.dat.injEq, Cell.own.injEq, Cont.lst.injEq, D.bl.injEq, D.int.injEq, D.str.injEq, D.tup.injEq, D.lst.injEq, Arg.d.injEq, List.cons.injEq, exists_and_left, exists_and_right, exists_eq_left', exists_eq_left, exists_eq_right, exists_eq_right', exists_eq, exists_eq', and_true, true_and, and_assoc, and_self, exists_const, reduceCtorEq, web_wE, web_pE, webD_inj]
  refine c1_in_grains_ok hl ht m1 m2 ?_
  simp only [seqD_l, wPeekR, wTor, wSor, wXor, gNotInL, wAugVC, wRetOwnG, wRetSortFr, wExtend, gMaxT, gMinT, wAppendB, gRepT1, wFrzD, dcOf, wKeys, wDGet, wDIn, wDkNew, wDtNew, wDlNew, wLate, wPopAt, wIsiT, wRepOwn, gRepL, wAugSOwn, wListRgOwn, wZipK3, gRepT, wCountB, wIndexB, wIsiOwn, wPeekL, wCallFr, wStar, wSortSet, wTryAs, wIsE, offE, wListRg1, wListRg2, wRngDown, wZipK, gInL, gNotInT, wCatOwn, gIsB, gNotB, D.adr.injEq, Cont.pool.injEq, ixN31, ne_eq, List.map_cons, List.map_nil, wPoolOpen, wPoolClose, wPop0, wPopTo, wListOwn, wRemove, wRaise0, wRaise1, wAugOwn, wEnumL, wTru, wSlA, gCatA, gLtT, gLeT, wFrz, wChain3, wAttr, wMkF, wEnumT, wRevT, wDict0, wDict1, numD3, Nat.reduceAdd, atI0, atI1, atI2, atI3, atI4, ixN51, ixN52, ixN53, List.length_map, wNever, scal, V.int.injEq, V.str.injEq, V.bl.injEq, wSq, wNext, wBreak, wCont, wDrop, wRet, wRetN, wIfS, wAsg, wPar, wLstOwn, wAppend, wSetOwn, wIxOwn, wPeek, wRetOwn, wRetFr, wFor, wB, wNot, wAnd, wOr, wAndV, wOrV, wNotV, wIf, wChain, wNil, wCons, wCB, wTup, wLst, wNoPart, wPart, wSlT, wSlL, wSeq, wRng1, wRng2, wZip, wName, wNilT, wConsT, wTupT, wYes, wNeg, wVar, wC, wOp, wcNil, wcCons, wcOwn, wCall, wCallOwn, slots, cellsOf, OwnArgs, putBack, g2I, g2IC, gLen, gAbs, gGcd, gInt1, gTupleOf, gListOf, gIx, gCatT, gCat, gEq, gNe, gIsN, gNotN, scD, seqD_t, seqD_l, seqD_f, isNonD, List.nodup_cons, List.mem_cons, List.not_mem_nil, or_false, not_false_eq_true, Nat.reduceEqDiff, L3.Keeps, ends, wipeD, List.replicate, List.cons_append, List.nil_append, List.append_nil, List.getElem?_cons_zero, List.getElem?_cons_succ, List.set_cons_zero, List.set_cons_succ, List.getD_cons_zero, List.getD_cons_succ, List.length_cons, List.length_nil, List.nodup_nil, Option.some.injEq, Cell.dat.injEq, Cell.own.injEq, Cont.lst.injEq, D.bl.injEq, D.int.injEq, D.str.injEq, D.tup.injEq, D.lst.injEq, Arg.d.injEq, List.cons.injEq, exists_and_left, exists_and_right, exists_eq_left', exists_eq_left, exists_eq_right, exists_eq_right', exists_eq, exists_eq', and_true, true_and, and_assoc, and_self, exists_const, reduceCtorEq, web_wE, web_pE, webD_inj]
  exact hq
theorem ok_in_grains (T : Txt K mg) : FnOk P w K mg base (L2.CX P w) 1 T.f_in_grains T.fd_in_grains ["thresholds", "many"] (spOf K 2 (fs_in_grains K)) := by
  refine def_ok T.F_in_grains sc_in_grains (wb := w_in_grains K) pure_in_grains ?_
  intro cdv A outer s H E hr tk
  exact ⟨_, (pss_one (ps_ret (pe_lc (own := [("top", 2), ("bottom", 3)]) (g := (gTup K 2 (gCons (gName 2) (gCons (gName 3) gNil)))) (tt := tYes) (te := (tOp rDivW (tOp rSubI (tOp rAddI (tOp rMulA (tVar 2) (tVar 1)) (tVar 3)) (tC (.int 1))) (tVar 3))) rfl sc_in_grains.nd (pi_seq (pv 0)) (blkOk_by (N := ["thresholds", "many", "top", "bottom"]) (sc := defScope s_in_grains) (by decide +kernel)) (fun _ _ _ _ _ => (pg_tup (by rfl) (pgs_cons (pg_name (i := 2) sc_in_grains.nd rfl (by first | exact Or.inl rfl | exact Or.inr rfl)) (pgs_cons (pg_name (i := 3) sc_in_grains.nd rfl (by first | exact Or.inl rfl | exact Or.inr rfl)) pgs_nil)))) (fun _ _ _ _ _ => pts_nil) (fun _ _ _ _ _ => (pe_op op_fdivW (pe_op op_sub (pe_op op_add (pe_op op_mulA (pv 2) (pv 1)) (pv 3)) pe_int) (pv 3)))))),
    (ds_ret (de_lc (vs := [2, 3]) (wI := (wSeq (wVar 0))) (wg := (wTupT 2 (wConsT (wName 2) (wConsT (wName 3) wNilT)))) (wt := wYes) (we := (wOp gDivW (wOp gSubI (wOp gAddI (wOp gMulA (wVar 2) (wVar 1)) (wVar 3)) (wC (.int 1))) (wVar 3))) (di_seq (de_var 0)) (dg_tup (n := 2) (dgs_cons (dg_name 2) (dgs_cons (dg_name 3) dgs_nil))) dt_yes (de_op o_fdivW (de_op o_sub (de_op o_add (de_op o_mulA (de_var 2) (de_var 1)) (de_var 3)) de_int) (de_var 3)) (by decide)))⟩
abbrev s_check_widths : Stmt := topS 32
theorem sc_check_widths : FnScope ["web", "total", "width"] ["web"] (defScope s_check_widths) := ⟨rfl, rfl, rfl, by decide +kernel, rfl, by decide +kernel, by decide +kernel⟩
def l1_check_widths (K : PySem.W.Frag) (Z : CT) : SW := wFor (wSeq (wAttr Z.C_Web "widths" (wVar 0))) (wName 2) (wSq (wAugVC 1 (wCB gMax2 (wCons (wVar 2) (wCons (wC (.int 1)) wNil))))
  (wIfS (wB (wOp gGtI (wVar 1) (wC (.int 64)))) (wRaise1 Z.C_TooMany "most" (wC (.int 64))) wNext))
def w_check_widths (K : PySem.W.Frag) (Z : CT) : SW := (wSq (wAsg (wC (.int 1)) (wName 1))
  (l1_check_widths K Z))
abbrev Th := Int × Int
def thD (t : Th) : D := .tup [.int t.1, .int t.2]
/-- a pipe by its ends and thresholds -/
abbrev Pt := Nat × Nat × List Th
def ptD (p : Pt) : D := .tup [.int (p.1 : Nat), .int (p.2.1 : Nat), .tup (p.2.2.map thD)]
def iD (xs : List Int) : List D := xs.map D.int
def prodW (us : List Int) : Int := us.foldl (fun m w => m * mxI w 1) 1
def lcmF (us : List Int) : Int := us.foldl (fun m w => ((Nat.lcm m.natAbs (mxI w 1).natAbs : Nat) : Int)) 1
/-- a small web, and it is one -/
def okB (us : List Int) (ps : List Pt) : Bool := decide (1 ≤ us.length) && decide (us.length ≤ 12) && (iD us).all (isBetw 0 12) && decide (ps.length ≤ 36) && (ps.map ptD).all (isPi us.length) &&
  ((List.range (us.length + 1)).all fun i => decide (prodW (us.take i) ≤ 64) && decide (1 ≤ lcmF (us.take i)) && decide (lcmF (us.take i) ≤ 132)) && decide (prodF (ps.map ptD) ≤ 5000)
structure WebK (us : List Int) (ps : List Pt) : Prop where
  w : WebV (iD us) (ps.map ptD)
  p : ∀ i, i ≤ us.length → prodW (us.take i) ≤ 64 ∧ 1 ≤ lcmF (us.take i) ∧ lcmF (us.take i) ≤ 132
  f : prodF (ps.map ptD) ≤ 5000
theorem iD_len {xs : List Int} : (iD xs).length = xs.length := List.length_map _
theorem webK {us : List Int} {ps : List Pt} (h : okB us ps = true) : WebK us ps := by
  unfold okB at h
  simp only [Bool.and_eq_true, decide_eq_true_eq, List.all_eq_true, List.mem_range] at h
  obtain ⟨⟨⟨⟨⟨⟨h1, h2⟩, h3⟩, h4⟩, h5⟩, h6⟩, h7⟩ := h
  refine ⟨⟨⟨by rw [iD_len]; exact h1, by rw [iD_len]; exact h2, h3⟩, by rw [List.length_map]; exact h4, fun d hd => by rw [iD_len]; exact h5 d hd⟩, fun i hi => ?_, h7⟩
  have := h6 i (by omega)
  exact ⟨this.1.1, this.1.2, this.2⟩
theorem take_sn {α : Type} {l : List α} {i : Nat} {x : α} (h : l[i]? = some x) : l.take (i + 1) = l.take i ++ [x] := by
  rw [List.take_add_one, h]
  rfl
theorem prodW_sn {us : List Int} {w : Int} : prodW (us ++ [w]) = prodW us * mxI w 1 := by
  unfold prodW
  rw [List.foldl_append]
  rfl
theorem lcmF_sn {us : List Int} {w : Int} : lcmF (us ++ [w]) = ((Nat.lcm (lcmF us).natAbs (mxI w 1).natAbs : Nat) : Int) := by
  unfold lcmF
  rw [List.foldl_append]
  rfl
theorem iD_at {us : List Int} {i : Nat} {d : D} (h : (iD us)[i]? = some d) : ∃ w, us[i]? = some w ∧ d = .int w := by
  unfold iD at h
  rw [List.getElem?_map] at h
  obtain ⟨w, e, rfl⟩ := Option.map_eq_some_iff.mp h
  exact ⟨w, e, rfl⟩
theorem wid_b {us : List Int} {ps : List Pt} (h : WebK us ps) {i : Nat} {w : Int} (e : us[i]? = some w) : 0 ≤ w ∧ w ≤ 12 := by
  have : D.int w ∈ iD us := List.mem_map.mpr ⟨w, List.mem_of_getElem? e, rfl⟩
  obtain ⟨x, ex, x0, x1⟩ := betw_int (h.w.1.2.2 _ this)
  cases ex
  exact ⟨x0, x1⟩
theorem mx_b {w : Int} (h0 : 0 ≤ w) (h1 : w ≤ 12) : 1 ≤ mxI w 1 ∧ mxI w 1 ≤ 12 := by
  unfold mxI
  split <;> omega
def fs_check_widths (K : PySem.W.Frag) (Z : CT) : FS := fun cs q _ => ∃ us ps, cs = [.dat (webD Z.C_Web (.tup (iD us)) (.tup (ps.map ptD)))] ∧ WebK us ps ∧ q .non cs
theorem pure_check_widths {Z : CT} : PureD 1 2 (fs_check_widths K Z) (w_check_widths K Z) := by
  rintro cs q e - ⟨us, ps, rfl, hw, hq⟩
  simp only [w_check_widths, wPeekR, wTor, wSor, wXor, gNotInL, wAugVC, wRetOwnG, wRetSortFr, wExtend, gMaxT, gMinT, wAppendB, gRepT1, wFrzD, dcOf, wKeys, wDGet, wDIn, wDkNew, wDtNew, wDlNew, wLate, wPopAt, wIsiT, wRepOwn, gRepL, wAugSOwn, wListRgOwn, wZipK3, gRepT, wCountB, wIndexB, wIsiOwn, wPeekL, wCallFr, wStar, wSortSet, wTryAs, wIsE, offE, wListRg1, wListRg2, wRngDown, wZipK, gInL, gNotInT, wCatOwn, gIsB, gNotB, D.adr.injEq, Cont.pool.injEq, ixN31, ne_eq, List.map_cons, List.map_nil, wPoolOpen, wPoolClose, wPop0, wPopTo, wListOwn, wRemove, wRaise0, wRaise1, wAugOwn, wEnumL, wTru, wSlA, gCatA, gLtT, gLeT, wFrz, wChain3, wAttr, wMkF, wEnumT, wRevT, wDict0, wDict1, numD3, Nat.reduceAdd, atI0, atI1, atI2, atI3, atI4, ixN51, ixN52, ixN53, List.length_map, wNever, scal, V.int.injEq, V.str.injEq, V.bl.injEq, wSq, wNext, wBreak, wCont, wDrop, wRet, wRetN, wIfS, wAsg, wPar, wLstOwn, wAppend, wSetOwn, wIxOwn, wPeek, wRetOwn, wRetFr, wFor, wB, wNot, wAnd, wOr, wAndV, wOrV, wNotV, wIf, wChain, wNil, wCons, wCB, wTup, wLst, wNoPart, wPart, wSlT, wSlL, wSeq, wRng1, wRng2, wZip, wName, wNilT, wConsT, wTupT, wYes, wNeg, wVar, wC, wOp, wcNil, wcCons, wcOwn, wCall, wCallOwn, slots, cellsOf, OwnArgs, putBack, g2I, g2IC, gLen, gAbs, gGcd, gInt1, gTupleOf, gListOf, gIx, gCatT, gCat, gEq, gNe, gIsN, gNotN, scD, seqD_t, seqD_l, seqD_f, isNonD, List.nodup_cons, List.mem_cons, List.not_mem_nil, or_false, not_false_eq_true, Nat.reduceEqDiff, L3.Keeps, ends, wipeD, List.replicate, List.cons_append, List.nil_append, List.append_nil, List.getElem?_cons_zero, List.getElem?_cons_succ, List.set_cons_zero, List.set_cons_succ, List.getD_cons_zero, List.getD_cons_succ, List.length_cons, List.length_nil, List.nodup_nil, Option.some.injEq, Cell.dat.injEq, Cell.own.injEq, Cont.lst.injEq, D.bl.injEq, D.int.injEq, D.str.injEq, D.tup.injEq, D.lst.injEq, Arg.d.injEq, List.cons.injEq, exists_and_left, exists_and_right, exists_eq_left', exists_eq_left, exists_eq_right, exists_eq_right', exists_eq, exists_eq', and_true, true_and, and_assoc, and_self, exists_const, reduceCtorEq, web_wE, web_pE, webD_inj]
  unfold l1_check_widths wFor
  simp only [gMax2, seqD_t, wPeekR, wTor, wSor, wXor, gNotInL, wAugVC, wRetOwnG, wRetSortFr, wExtend, gMaxT, gMinT, wAppendB, gRepT1, wFrzD, dcOf, wKeys, wDGet, wDIn, wDkNew, wDtNew, wDlNew, wLate, wPopAt, wIsiT, wRepOwn, gRepL, wAugSOwn, wListRgOwn, wZipK3, gRepT, wCountB, wIndexB, wIsiOwn, wPeekL, wCallFr, wStar, wSortSet, wTryAs, wIsE, offE, wListRg1, wListRg2, wRngDown, wZipK, gInL, gNotInT, wCatOwn, gIsB, gNotB, D.adr.injEq, Cont.pool.injEq, ixN31, ne_eq, List.map_cons, List.map_nil, wPoolOpen, wPoolClose, wPop0, wPopTo, wListOwn, wRemove, wRaise0, wRaise1, wAugOwn, wEnumL, wTru, wSlA, gCatA, gLtT, gLeT, wFrz, wChain3, wAttr, wMkF, wEnumT, wRevT, wDict0, wDict1, numD3, Nat.reduceAdd, atI0, atI1, atI2, atI3, atI4, ixN51, ixN52, ixN53, List.length_map, wNever, scal, V.int.injEq, V.str.injEq, V.bl.injEq, wSq, wNext, wBreak, wCont, wDrop, wRet, wRetN, wIfS, wAsg, wPar, wLstOwn, wAppend, wSetOwn, wIxOwn, wPeek, wRetOwn, wRetFr, wFor, wB, wNot, wAnd, wOr, wAndV, wOrV, wNotV, wIf, wChain, wNil, wCons, wCB, wTup, wLst, wNoPart, wPart, wSlT, wSlL, wSeq, wRng1, wRng2, wZip, wName, wNilT, wConsT, wTupT, wYes, wNeg, wVar, wC, wOp, wcNil, wcCons, wcOwn, wCall, wCallOwn, slots, cellsOf, OwnArgs, putBack, g2I, g2IC, gLen, gAbs, gGcd, gInt1, gTupleOf, gListOf, gIx, gCatT, gCat, gEq, gNe, gIsN, gNotN, scD, seqD_t, seqD_l, seqD_f, isNonD, List.nodup_cons, List.mem_cons, List.not_mem_nil, or_false, not_false_eq_true, Nat.reduceEqDiff, L3.Keeps, ends, wipeD, List.replicate, List.cons_append, List.nil_append, List.append_nil, List.getElem?_cons_zero, List.getElem?_cons_succ, List.set_cons_zero, List.set_cons_succ, List.getD_cons_zero, List.getD_cons_succ, List.length_cons, List.length_nil, List.nodup_nil, Option.some.injEq, Cell.dat.injEq, Cell.own.injEq, Cont.lst.injEq, D.bl.injEq, D.int.injEq, D.str.injEq, D.tup.injEq, D.lst.injEq, Arg.d.injEq, List.cons.injEq, exists_and_left, exists_and_right, exists_eq_left', exists_eq_left, exists_eq_right, exists_eq_right', exists_eq, exists_eq', and_true, true_and, and_assoc, and_self, exists_const, reduceCtorEq, web_wE, web_pE, webD_inj]
  refine ⟨fun i τ => ∃ c2, τ = [.dat (webD Z.C_Web (.tup (iD us)) (.tup (ps.map ptD))), .dat (.int (prodW (us.take i))), c2], ⟨_, rfl⟩, ?_, ?_⟩
  · rintro i d τ2 hi ⟨c2, rfl⟩
    obtain ⟨w, ew, rfl⟩ := iD_at hi
    have hlt := (List.getElem?_eq_some_iff.mp ew).1
    have b := wid_b hw ew
    have m := mx_b b.1 b.2
    have tk := take_sn ew
    have pp := (hw.p (i + 1) (by omega)).1
    rw [tk, prodW_sn] at pp
    simp only [wPeekR, wTor, wSor, wXor, gNotInL, wAugVC, wRetOwnG, wRetSortFr, wExtend, gMaxT, gMinT, wAppendB, gRepT1, wFrzD, dcOf, wKeys, wDGet, wDIn, wDkNew, wDtNew, wDlNew, wLate, wPopAt, wIsiT, wRepOwn, gRepL, wAugSOwn, wListRgOwn, wZipK3, gRepT, wCountB, wIndexB, wIsiOwn, wPeekL, wCallFr, wStar, wSortSet, wTryAs, wIsE, offE, wListRg1, wListRg2, wRngDown, wZipK, gInL, gNotInT, wCatOwn, gIsB, gNotB, D.adr.injEq, Cont.pool.injEq, ixN31, ne_eq, List.map_cons, List.map_nil, wPoolOpen, wPoolClose, wPop0, wPopTo, wListOwn, wRemove, wRaise0, wRaise1, wAugOwn, wEnumL, wTru, wSlA, gCatA, gLtT, gLeT, wFrz, wChain3, wAttr, wMkF, wEnumT, wRevT, wDict0, wDict1, numD3, Nat.reduceAdd, atI0, atI1, atI2, atI3, atI4, ixN51, ixN52, ixN53, List.length_map, wNever, scal, V.int.injEq, V.str.injEq, V.bl.injEq, wSq, wNext, wBreak, wCont, wDrop, wRet, wRetN, wIfS, wAsg, wPar, wLstOwn, wAppend, wSetOwn, wIxOwn, wPeek, wRetOwn, wRetFr, wFor, wB, wNot, wAnd, wOr, wAndV, wOrV, wNotV, wIf, wChain, wNil, wCons, wCB, wTup, wLst, wNoPart, wPart, wSlT, wSlL, wSeq, wRng1, wRng2, wZip, wName, wNilT, wConsT, wTupT, wYes, wNeg, wVar, wC, wOp, wcNil, wcCons, wcOwn, wCall, wCallOwn, slots, cellsOf, OwnArgs, putBack, g2I, g2IC, gLen, gAbs, gGcd, gInt1, gTupleOf, gListOf, gIx, gCatT, gCat, gEq, gNe, gIsN, gNotN, scD, seqD_t, seqD_l, seqD_f, isNonD, List.nodup_cons, List.mem_cons, List.not_mem_nil, or_false, not_false_eq_true, Nat.reduceEqDiff, L3.Keeps, ends, wipeD, List.replicate, List.cons_append, List.nil_append, List.append_nil, List.getElem?_cons_zero, List.getElem?_cons_succ, List.set_cons_zero, List.set_cons_succ, List.getD_cons_zero, List.getD_cons_succ, List.length_cons, List.length_nil, List.nodup_nil, Option.some.injEq, Cell.dat.injEq, Cell.own.injEq, Cont.lst.injEq, D.bl.injEq, D.int.injEq, D.str.injEq, D.tup.injEq, D.lst.injEq, Arg.d.injEq, List.cons.injEq, exists_and_left, exists_and_right, exists_eq_left', exists_eq_left, exists_eq_right, exists_eq_right', exists_eq, exists_eq', and_true, true_and, and_assoc, and_self, exists_const, reduceCtorEq, web_wE, web_pE, webD_inj]
    refine ⟨cmul_r (by omega) (by omega), fun z => absurd (of_decide_eq_true z) (by omega), fun _ => ?_⟩
    rw [tk, prodW_sn]
  · rintro τ2 ⟨c2, rfl⟩
    simp only [wPeekR, wTor, wSor, wXor, gNotInL, wAugVC, wRetOwnG, wRetSortFr, wExtend, gMaxT, gMinT, wAppendB, gRepT1, wFrzD, dcOf, wKeys, wDGet, wDIn, wDkNew, wDtNew, wDlNew, wLate, wPopAt, wIsiT, wRepOwn, gRepL, wAugSOwn, wListRgOwn, wZipK3, gRepT, wCountB, wIndexB, wIsiOwn, wPeekL, wCallFr, wStar, wSortSet, wTryAs, wIsE, offE, wListRg1, wListRg2, wRngDown, wZipK, gInL, gNotInT, wCatOwn, gIsB, gNotB, D.adr.injEq, Cont.pool.injEq, ixN31, ne_eq, List.map_cons, List.map_nil, wPoolOpen, wPoolClose, wPop0, wPopTo, wListOwn, wRemove, wRaise0, wRaise1, wAugOwn, wEnumL, wTru, wSlA, gCatA, gLtT, gLeT, wFrz, wChain3, wAttr, wMkF, wEnumT, wRevT, wDict0, wDict1, numD3, Nat.reduceAdd, atI0, atI1, atI2, atI3, atI4, ixN51, ixN52, ixN53, List.length_map, wNever, scal, V.int.injEq, V.str.injEq, V.bl.injEq, wSq, wNext, wBreak, wCont, wDrop, wRet, wRetN, wIfS, wAsg, wPar, wLstOwn, wAppend, wSetOwn, wIxOwn, wPeek, wRetOwn, wRetFr, wFor, wB, wNot, wAnd, wOr, wAndV, wOrV, wNotV, wIf, wChain, wNil, wCons, wCB, wTup, wLst, wNoPart, wPart, wSlT, wSlL, wSeq, wRng1, wRng2, wZip, wName, wNilT, wConsT, wTupT, wYes, wNeg, wVar, wC, wOp, wcNil, wcCons, wcOwn, wCall, wCallOwn, slots, cellsOf, OwnArgs, putBack, g2I, g2IC, gLen, gAbs, gGcd, gInt1, gTupleOf, gListOf, gIx, gCatT, gCat, gEq, gNe, gIsN, gNotN, scD, seqD_t, seqD_l, seqD_f, isNonD, List.nodup_cons, List.mem_cons, List.not_mem_nil, or_false, not_false_eq_true, Nat.reduceEqDiff, L3.Keeps, ends, wipeD, List.replicate, List.cons_append, List.nil_append, List.append_nil, List.getElem?_cons_zero, List.getElem?_cons_succ, List.set_cons_zero, List.set_cons_succ, List.getD_cons_zero, List.getD_cons_succ, List.length_cons, List.length_nil, List.nodup_nil, Option.some.injEq, Cell.dat.injEq, Cell.own.injEq, Cont.lst.injEq, D.bl.injEq, D.int.injEq, D.str.injEq, D.tup.injEq, D.lst.injEq, Arg.d.injEq, List.cons.injEq, exists_and_left, exists_and_right, exists_eq_left', exists_eq_left, exists_eq_right, exists_eq_right', exists_eq, exists_eq', and_true, true_and, and_assoc, and_self, exists_const, reduceCtorEq, web_wE, web_pE, webD_inj]
    exact hq
theorem ok_check_widths (T : Txt K mg) : FnOk P w K mg base (L2.CX P w) 3 T.f_check_widths T.fd_check_widths ["web"] (spOf K 1 (fs_check_widths K T.Z)) := by
  refine def_ok T.F_check_widths sc_check_widths (wb := w_check_widths K T.Z) pure_check_widths ?_
  intro cdv A outer s H E hr tk
  exact ⟨_, (pss_cons (ps_set (i := 1) sc_check_widths.nd rfl (by first | exact Or.inl rfl | exact Or.inr rfl) pe_int)
      (pss_one (ps_for (passes_of rfl) rfl (pi_seq (pe_fld (pv 0) rfl)) (pg_name (i := 2) sc_check_widths.nd rfl (by first | exact Or.inl rfl | exact Or.inr rfl))
        (pss_cons (ps_aug (i := 1) sc_check_widths.nd rfl (by first | exact Or.inl rfl | exact Or.inr rfl) (pe_callB (call_max2 rfl) (by rfl) T.z_max (by decide +kernel) (pa_cons (pv 2) (pa_cons pe_int pa_nil))) ip_mul)
      (pss_one (ps_if (pt_cmpR op_gt (pv 1) (pe_glob (v := .int 64) rfl T.c_MOST_WIDTHS ⟨_, rfl⟩) (nomark _))
        (pss_one (ps_raise rfl tk (pmk_oex T.ox_TooMany T.xi_TooMany T.xt_TooMany (okx_TooMany T) (hr.mono (by decide : 2 ≤ _)) T.bx_TooMany .nil passL rfl T.gx_TooMany (pa_cons (pe_glob (v := .int 64) rfl T.c_MOST_WIDTHS ⟨_, rfl⟩) pa_nil))))
        pss_nil)))))),
    (ds_seq (ds_asg de_int (dg_name 1))
      (ds_for (wI := (wSeq (wAttr T.Z.C_Web "widths" (wVar 0)))) (wg := (wName 2)) (wb := (wSq (wAugVC 1 (wCB gMax2 (wCons (wVar 2) (wCons (wC (.int 1)) wNil))))
  (wIfS (wB (wOp gGtI (wVar 1) (wC (.int 64)))) (wRaise1 T.Z.C_TooMany "most" (wC (.int 64))) wNext))) (di_seq (de_fld T.it_Web.cl T.na_Web_widths (de_var 0))) (dg_name 2) (ds_seq (ds_augVC (i := 1) (de_cb o_max2 (da_cons (de_var 2) (da_cons de_int da_nil))))
      (ds_if (dt_B (de_op o_gt (de_var 1) de_int)) (ds_raise1 (C := T.Z.C_TooMany) (f := "most") de_int) ds_nil))))⟩
abbrev s_share : Stmt := topS 34
theorem sc_share : FnScope ["width", "many"] ["width", "many"] (defScope s_share) := ⟨rfl, rfl, rfl, by decide +kernel, rfl, by decide +kernel, by decide +kernel⟩
def w_share (K : PySem.W.Frag) : SW := (wRet (wIf (wB (wOp gGtI (wVar 0) (wC (.int 0)))) (wOp gDivW (wVar 1) (wVar 0)) (wC (.int 0))))
def shF (m w : Int) : Int := if 0 < w then m / w else 0
def fs_share (K : PySem.W.Frag) : FS := fun cs q _ => ∃ (w m : Int), cs = [.dat (.int w), .dat (.int m)] ∧ w ≤ 12 ∧ q (.int (shF m w)) cs
theorem pure_share : PureD 2 0 (fs_share K) (w_share K) := by
  rintro cs q e - ⟨w, m, rfl, w1, hq⟩
  simp only [w_share, wPeekR, wTor, wSor, wXor, gNotInL, wAugVC, wRetOwnG, wRetSortFr, wExtend, gMaxT, gMinT, wAppendB, gRepT1, wFrzD, dcOf, wKeys, wDGet, wDIn, wDkNew, wDtNew, wDlNew, wLate, wPopAt, wIsiT, wRepOwn, gRepL, wAugSOwn, wListRgOwn, wZipK3, gRepT, wCountB, wIndexB, wIsiOwn, wPeekL, wCallFr, wStar, wSortSet, wTryAs, wIsE, offE, wListRg1, wListRg2, wRngDown, wZipK, gInL, gNotInT, wCatOwn, gIsB, gNotB, D.adr.injEq, Cont.pool.injEq, ixN31, ne_eq, List.map_cons, List.map_nil, wPoolOpen, wPoolClose, wPop0, wPopTo, wListOwn, wRemove, wRaise0, wRaise1, wAugOwn, wEnumL, wTru, wSlA, gCatA, gLtT, gLeT, wFrz, wChain3, wAttr, wMkF, wEnumT, wRevT, wDict0, wDict1, numD3, Nat.reduceAdd, atI0, atI1, atI2, atI3, atI4, ixN51, ixN52, ixN53, List.length_map, wNever, scal, V.int.injEq, V.str.injEq, V.bl.injEq, wSq, wNext, wBreak, wCont, wDrop, wRet, wRetN, wIfS, wAsg, wPar, wLstOwn, wAppend, wSetOwn, wIxOwn, wPeek, wRetOwn, wRetFr, wFor, wB, wNot, wAnd, wOr, wAndV, wOrV, wNotV, wIf, wChain, wNil, wCons, wCB, wTup, wLst, wNoPart, wPart, wSlT, wSlL, wSeq, wRng1, wRng2, wZip, wName, wNilT, wConsT, wTupT, wYes, wNeg, wVar, wC, wOp, wcNil, wcCons, wcOwn, wCall, wCallOwn, slots, cellsOf, OwnArgs, putBack, g2I, g2IC, gLen, gAbs, gGcd, gInt1, gTupleOf, gListOf, gIx, gCatT, gCat, gEq, gNe, gIsN, gNotN, scD, seqD_t, seqD_l, seqD_f, isNonD, List.nodup_cons, List.mem_cons, List.not_mem_nil, or_false, not_false_eq_true, Nat.reduceEqDiff, L3.Keeps, ends, wipeD, List.replicate, List.cons_append, List.nil_append, List.append_nil, List.getElem?_cons_zero, List.getElem?_cons_succ, List.set_cons_zero, List.set_cons_succ, List.getD_cons_zero, List.getD_cons_succ, List.length_cons, List.length_nil, List.nodup_nil, Option.some.injEq, Cell.dat.injEq, Cell.own.injEq, Cont.lst.injEq, D.bl.injEq, D.int.injEq, D.str.injEq, D.tup.injEq, D.lst.injEq, Arg.d.injEq, List.cons.injEq, exists_and_left, exists_and_right, exists_eq_left', exists_eq_left, exists_eq_right, exists_eq_right', exists_eq, exists_eq', and_true, true_and, and_assoc, and_self, exists_const, reduceCtorEq, web_wE, web_pE, webD_inj]
  unfold shF at hq
  refine ⟨fun z => ?_, fun z => ?_⟩
  · have z := of_decide_eq_true z
    rw [if_pos z] at hq
    exact ⟨wide_div (b := 40) (by omega) (by omega) (by decide) (by decide), hq⟩
  · rw [if_neg (of_decide_eq_false z)] at hq
    exact hq
theorem ok_share (T : Txt K mg) : FnOk P w K mg base (L2.CX P w) 1 T.f_share T.fd_share ["width", "many"] (spOf K 2 (fs_share K)) := by
  refine def_ok T.F_share sc_share (wb := w_share K) pure_share ?_
  intro cdv A outer s H E hr tk
  exact ⟨_, (pss_one (ps_ret (pe_ifExp (pt_cmpR op_gt (pv 0) pe_int (nomark _)) (pe_op op_fdivW (pv 1) (pv 0)) pe_int))),
    (ds_ret (de_if (dt_B (de_op o_gt (de_var 0) de_int)) (de_op o_fdivW (de_var 1) (de_var 0)) de_int))⟩
abbrev s_shares_of : Stmt := topS 35
theorem sc_shares_of : FnScope ["web", "many", "width"] ["web"] (defScope s_shares_of) := ⟨rfl, rfl, rfl, by decide +kernel, rfl, by decide +kernel, by decide +kernel⟩
def l1_shares_of (K : PySem.W.Frag) (Z : CT) : SW := wFor (wSeq (wAttr Z.C_Web "widths" (wVar 0))) (wName 2) (wAsg (wCB gLcm (wCons (wVar 1) (wCons (wCB gMax2 (wCons (wVar 2) (wCons (wC (.int 1)) wNil))) wNil))) (wName 1))
def c2_shares_of (K : PySem.W.Frag) (Z : CT) : EW := wLc (wSeq (wAttr Z.C_Web "widths" (wVar 0))) (wName 2) wYes (wCall 2 (fs_share K) (wcCons (wVar 2) (wcCons (wVar 1) wcNil))) [2]
def w_shares_of (K : PySem.W.Frag) (Z : CT) : SW := (wSq (wAsg (wC (.int 1)) (wName 1))
  (wSq (l1_shares_of K Z)
  (wRet (wTup (wCons (wVar 1) (wCons (c2_shares_of K Z) wNil))))))
def shS (us : List Int) : List Int := us.map (shF (lcmF us))
def fs_shares_of (K : PySem.W.Frag) (Z : CT) : FS := fun cs q _ => ∃ us ps, cs = [.dat (webD Z.C_Web (.tup (iD us)) (.tup (ps.map ptD)))] ∧ WebK us ps ∧ q (.tup [.int (lcmF us), .lst (iD (shS us))]) cs
theorem c2_shares_of_ok {Z : CT} {us : List Int} {ps : List Pt} {m : Int} {c2 : Cell} {q : D → List Cell → Prop} {e : Xn → List Cell → Prop} (hw : WebK us ps)
    (hq : q (.lst (iD (us.map (shF m)))) [.dat (webD Z.C_Web (.tup (iD us)) (.tup (ps.map ptD))), .dat (.int m), .any]) :
    c2_shares_of K Z [.dat (webD Z.C_Web (.tup (iD us)) (.tup (ps.map ptD))), .dat (.int m), c2] q e := by
  have h12 := hw.w.1.2.1
  rw [iD_len] at h12
  unfold c2_shares_of wLc
  simp only [fs_share, seqD_t, wPeekR, wTor, wSor, wXor, gNotInL, wAugVC, wRetOwnG, wRetSortFr, wExtend, gMaxT, gMinT, wAppendB, gRepT1, wFrzD, dcOf, wKeys, wDGet, wDIn, wDkNew, wDtNew, wDlNew, wLate, wPopAt, wIsiT, wRepOwn, gRepL, wAugSOwn, wListRgOwn, wZipK3, gRepT, wCountB, wIndexB, wIsiOwn, wPeekL, wCallFr, wStar, wSortSet, wTryAs, wIsE, offE, wListRg1, wListRg2, wRngDown, wZipK, gInL, gNotInT, wCatOwn, gIsB, gNotB, D.adr.injEq, Cont.pool.injEq, ixN31, ne_eq, List.map_cons, List.map_nil, wPoolOpen, wPoolClose, wPop0, wPopTo, wListOwn, wRemove, wRaise0, wRaise1, wAugOwn, wEnumL, wTru, wSlA, gCatA, gLtT, gLeT, wFrz, wChain3, wAttr, wMkF, wEnumT, wRevT, wDict0, wDict1, numD3, Nat.reduceAdd, atI0, atI1, atI2, atI3, atI4, ixN51, ixN52, ixN53, List.length_map, wNever, scal, V.int.injEq, V.str.injEq, V.bl.injEq, wSq, wNext, wBreak, wCont, wDrop, wRet, wRetN, wIfS, wAsg, wPar, wLstOwn, wAppend, wSetOwn, wIxOwn, wPeek, wRetOwn, wRetFr, wFor, wB, wNot, wAnd, wOr, wAndV, wOrV, wNotV, wIf, wChain, wNil, wCons, wCB, wTup, wLst, wNoPart, wPart, wSlT, wSlL, wSeq, wRng1, wRng2, wZip, wName, wNilT, wConsT, wTupT, wYes, wNeg, wVar, wC, wOp, wcNil, wcCons, wcOwn, wCall, wCallOwn, slots, cellsOf, OwnArgs, putBack, g2I, g2IC, gLen, gAbs, gGcd, gInt1, gTupleOf, gListOf, gIx, gCatT, gCat, gEq, gNe, gIsN, gNotN, scD, seqD_t, seqD_l, seqD_f, isNonD, List.nodup_cons, List.mem_cons, List.not_mem_nil, or_false, not_false_eq_true, Nat.reduceEqDiff, L3.Keeps, ends, wipeD, List.replicate, List.cons_append, List.nil_append, List.append_nil, List.getElem?_cons_zero, List.getElem?_cons_succ, List.set_cons_zero, List.set_cons_succ, List.getD_cons_zero, List.getD_cons_succ, List.length_cons, List.length_nil, List.nodup_nil, Option.some.injEq, Cell.dat.injEq, Cell.own.injEq, Cont.lst.injEq, D.bl.injEq, D.int.injEq, D.str.injEq, D.tup.injEq, D.lst.injEq, Arg.d.injEq, List.cons.injEq, exists_and_left, exists_and_right, exists_eq_left', exists_eq_left, exists_eq_right, exists_eq_right', exists_eq, exists_eq', and_true, true_and, and_assoc, and_self, exists_const, reduceCtorEq, web_wE, web_pE, webD_inj]
  refine ⟨by rw [iD_len]; omega, fun i acc τ => τ = [.dat (webD Z.C_Web (.tup (iD us)) (.tup (ps.map ptD))), .dat (.int m), .any] ∧ acc = iD ((us.take i).map (shF m)), ⟨rfl, rfl⟩, ?_, ?_⟩
  · rintro i d acc τ2 hi ⟨rfl, rfl⟩ -
    obtain ⟨w, ew, rfl⟩ := iD_at hi
    have b := wid_b hw ew
    simp only [wPeekR, wTor, wSor, wXor, gNotInL, wAugVC, wRetOwnG, wRetSortFr, wExtend, gMaxT, gMinT, wAppendB, gRepT1, wFrzD, dcOf, wKeys, wDGet, wDIn, wDkNew, wDtNew, wDlNew, wLate, wPopAt, wIsiT, wRepOwn, gRepL, wAugSOwn, wListRgOwn, wZipK3, gRepT, wCountB, wIndexB, wIsiOwn, wPeekL, wCallFr, wStar, wSortSet, wTryAs, wIsE, offE, wListRg1, wListRg2, wRngDown, wZipK, gInL, gNotInT, wCatOwn, gIsB, gNotB, D.adr.injEq, Cont.pool.injEq, ixN31, ne_eq, List.map_cons, List.map_nil, wPoolOpen, wPoolClose, wPop0, wPopTo, wListOwn, wRemove, wRaise0, wRaise1, wAugOwn, wEnumL, wTru, wSlA, gCatA, gLtT, gLeT, wFrz, wChain3, wAttr, wMkF, wEnumT, wRevT, wDict0, wDict1, numD3, Nat.reduceAdd, atI0, atI1, atI2, atI3, atI4, ixN51, ixN52, ixN53, List.length_map, wNever, scal, V.int.injEq, V.str.injEq, V.bl.injEq, wSq, wNext, wBreak, wCont, wDrop, wRet, wRetN, wIfS, wAsg, wPar, wLstOwn, wAppend, wSetOwn, wIxOwn, wPeek, wRetOwn, wRetFr, wFor, wB, wNot, wAnd, wOr, wAndV, wOrV, wNotV, wIf, wChain, wNil, wCons, wCB, wTup, wLst, wNoPart, wPart, wSlT, wSlL, wSeq, wRng1, wRng2, wZip, wName, wNilT, wConsT, wTupT, wYes, wNeg, wVar, wC, wOp, wcNil, wcCons, wcOwn, wCall, wCallOwn, slots, cellsOf, OwnArgs, putBack, g2I, g2IC, gLen, gAbs, gGcd, gInt1, gTupleOf, gListOf, gIx, gCatT, gCat, gEq, gNe, gIsN, gNotN, scD, seqD_t, seqD_l, seqD_f, isNonD, List.nodup_cons, List.mem_cons, List.not_mem_nil, or_false, not_false_eq_true, Nat.reduceEqDiff, L3.Keeps, ends, wipeD, List.replicate, List.cons_append, List.nil_append, List.append_nil, List.getElem?_cons_zero, List.getElem?_cons_succ, List.set_cons_zero, List.set_cons_succ, List.getD_cons_zero, List.getD_cons_succ, List.length_cons, List.length_nil, List.nodup_nil, Option.some.injEq, Cell.dat.injEq, Cell.own.injEq, Cont.lst.injEq, D.bl.injEq, D.int.injEq, D.str.injEq, D.tup.injEq, D.lst.injEq, Arg.d.injEq, List.cons.injEq, exists_and_left, exists_and_right, exists_eq_left', exists_eq_left, exists_eq_right, exists_eq_right', exists_eq, exists_eq', and_true, true_and, and_assoc, and_self, exists_const, reduceCtorEq, web_wE, web_pE, webD_inj]
    refine ⟨fun _ => ⟨b.2, ?_⟩, fun z => z.elim⟩
    rw [take_sn ew]
    simp [iD]
  · rintro acc τ2 ⟨h1, h2⟩ -
    rw [iD_len, List.take_length] at h2
    rw [h1, h2]
    exact hq
theorem pure_shares_of {Z : CT} : PureD 1 2 (fs_shares_of K Z) (w_shares_of K Z) := by
  rintro cs q e - ⟨us, ps, rfl, hw, hq⟩
  simp only [w_shares_of, wPeekR, wTor, wSor, wXor, gNotInL, wAugVC, wRetOwnG, wRetSortFr, wExtend, gMaxT, gMinT, wAppendB, gRepT1, wFrzD, dcOf, wKeys, wDGet, wDIn, wDkNew, wDtNew, wDlNew, wLate, wPopAt, wIsiT, wRepOwn, gRepL, wAugSOwn, wListRgOwn, wZipK3, gRepT, wCountB, wIndexB, wIsiOwn, wPeekL, wCallFr, wStar, wSortSet, wTryAs, wIsE, offE, wListRg1, wListRg2, wRngDown, wZipK, gInL, gNotInT, wCatOwn, gIsB, gNotB, D.adr.injEq, Cont.pool.injEq, ixN31, ne_eq, List.map_cons, List.map_nil, wPoolOpen, wPoolClose, wPop0, wPopTo, wListOwn, wRemove, wRaise0, wRaise1, wAugOwn, wEnumL, wTru, wSlA, gCatA, gLtT, gLeT, wFrz, wChain3, wAttr, wMkF, wEnumT, wRevT, wDict0, wDict1, numD3, Nat.reduceAdd, atI0, atI1, atI2, atI3, atI4, ixN51, ixN52, ixN53, List.length_map, wNever, scal, V.int.injEq, V.str.injEq, V.bl.injEq, wSq, wNext, wBreak, wCont, wDrop, wRet, wRetN, wIfS, wAsg, wPar, wLstOwn, wAppend, wSetOwn, wIxOwn, wPeek, wRetOwn, wRetFr, wFor, wB, wNot, wAnd, wOr, wAndV, wOrV, wNotV, wIf, wChain, wNil, wCons, wCB, wTup, wLst, wNoPart, wPart, wSlT, wSlL, wSeq, wRng1, wRng2, wZip, wName, wNilT, wConsT, wTupT, wYes, wNeg, wVar, wC, wOp, wcNil, wcCons, wcOwn, wCall, wCallOwn, slots, cellsOf, OwnArgs, putBack, g2I, g2IC, gLen, gAbs, gGcd, gInt1, gTupleOf, gListOf, gIx, gCatT, gCat, gEq, gNe, gIsN, gNotN, scD, seqD_t, seqD_l, seqD_f, isNonD, List.nodup_cons, List.mem_cons, List.not_mem_nil, or_false, not_false_eq_true, Nat.reduceEqDiff, L3.Keeps, ends, wipeD, List.replicate, List.cons_append, List.nil_append, List.append_nil, List.getElem?_cons_zero, List.getElem?_cons_succ, List.set_cons_zero, List.set_cons_succ, List.getD_cons_zero, List.getD_cons_succ, List.length_cons, List.length_nil, List.nodup_nil, Option.some.injEq, Cell.dat.injEq, Cell.own.injEq, Cont.lst.injEq, D.bl.injEq, D.int.injEq, D.str.injEq, D.tup.injEq, D.lst.injEq, Arg.d.injEq, List.cons.injEq, exists_and_left, exists_and_right, exists_eq_left', exists_eq_left, exists_eq_right, exists_eq_right', exists_eq, exists_eq', and_true, true_and, and_assoc, and_self, exists_const, reduceCtorEq, web_wE, web_pE, webD_inj]
  unfold l1_shares_of wFor
  simp only [gMax2, gLcm, seqD_t, wPeekR, wTor, wSor, wXor, gNotInL, wAugVC, wRetOwnG, wRetSortFr, wExtend, gMaxT, gMinT, wAppendB, gRepT1, wFrzD, dcOf, wKeys, wDGet, wDIn, wDkNew, wDtNew, wDlNew, wLate, wPopAt, wIsiT, wRepOwn, gRepL, wAugSOwn, wListRgOwn, wZipK3, gRepT, wCountB, wIndexB, wIsiOwn, wPeekL, wCallFr, wStar, wSortSet, wTryAs, wIsE, offE, wListRg1, wListRg2, wRngDown, wZipK, gInL, gNotInT, wCatOwn, gIsB, gNotB, D.adr.injEq, Cont.pool.injEq, ixN31, ne_eq, List.map_cons, List.map_nil, wPoolOpen, wPoolClose, wPop0, wPopTo, wListOwn, wRemove, wRaise0, wRaise1, wAugOwn, wEnumL, wTru, wSlA, gCatA, gLtT, gLeT, wFrz, wChain3, wAttr, wMkF, wEnumT, wRevT, wDict0, wDict1, numD3, Nat.reduceAdd, atI0, atI1, atI2, atI3, atI4, ixN51, ixN52, ixN53, List.length_map, wNever, scal, V.int.injEq, V.str.injEq, V.bl.injEq, wSq, wNext, wBreak, wCont, wDrop, wRet, wRetN, wIfS, wAsg, wPar, wLstOwn, wAppend, wSetOwn, wIxOwn, wPeek, wRetOwn, wRetFr, wFor, wB, wNot, wAnd, wOr, wAndV, wOrV, wNotV, wIf, wChain, wNil, wCons, wCB, wTup, wLst, wNoPart, wPart, wSlT, wSlL, wSeq, wRng1, wRng2, wZip, wName, wNilT, wConsT, wTupT, wYes, wNeg, wVar, wC, wOp, wcNil, wcCons, wcOwn, wCall, wCallOwn, slots, cellsOf, OwnArgs, putBack, g2I, g2IC, gLen, gAbs, gGcd, gInt1, gTupleOf, gListOf, gIx, gCatT, gCat, gEq, gNe, gIsN, gNotN, scD, seqD_t, seqD_l, seqD_f, isNonD, List.nodup_cons, List.mem_cons, List.not_mem_nil, or_false, not_false_eq_true, Nat.reduceEqDiff, L3.Keeps, ends, wipeD, List.replicate, List.cons_append, List.nil_append, List.append_nil, List.getElem?_cons_zero, List.getElem?_cons_succ, List.set_cons_zero, List.set_cons_succ, List.getD_cons_zero, List.getD_cons_succ, List.length_cons, List.length_nil, List.nodup_nil, Option.some.injEq, Cell.dat.injEq, Cell.own.injEq, Cont.lst.injEq, D.bl.injEq, D.int.injEq, D.str.injEq, D.tup.injEq, D.lst.injEq, Arg.d.injEq, List.cons.injEq, exists_and_left, exists_and_right, exists_eq_left', exists_eq_left, exists_eq_right, exists_eq_right', exists_eq, exists_eq', and_true, true_and, and_assoc, and_self, exists_const, reduceCtorEq, web_wE, web_pE, webD_inj]
  refine ⟨fun i τ => ∃ c2, τ = [.dat (webD Z.C_Web (.tup (iD us)) (.tup (ps.map ptD))), .dat (.int (lcmF (us.take i))), c2], ⟨_, rfl⟩, ?_, ?_⟩
  · rintro i d τ2 hi ⟨c2, rfl⟩
    obtain ⟨w, ew, rfl⟩ := iD_at hi
    have hlt := (List.getElem?_eq_some_iff.mp ew).1
    have b := wid_b hw ew
    have m := mx_b b.1 b.2
    have pp := (hw.p i (by omega)).2
    simp only [wPeekR, wTor, wSor, wXor, gNotInL, wAugVC, wRetOwnG, wRetSortFr, wExtend, gMaxT, gMinT, wAppendB, gRepT1, wFrzD, dcOf, wKeys, wDGet, wDIn, wDkNew, wDtNew, wDlNew, wLate, wPopAt, wIsiT, wRepOwn, gRepL, wAugSOwn, wListRgOwn, wZipK3, gRepT, wCountB, wIndexB, wIsiOwn, wPeekL, wCallFr, wStar, wSortSet, wTryAs, wIsE, offE, wListRg1, wListRg2, wRngDown, wZipK, gInL, gNotInT, wCatOwn, gIsB, gNotB, D.adr.injEq, Cont.pool.injEq, ixN31, ne_eq, List.map_cons, List.map_nil, wPoolOpen, wPoolClose, wPop0, wPopTo, wListOwn, wRemove, wRaise0, wRaise1, wAugOwn, wEnumL, wTru, wSlA, gCatA, gLtT, gLeT, wFrz, wChain3, wAttr, wMkF, wEnumT, wRevT, wDict0, wDict1, numD3, Nat.reduceAdd, atI0, atI1, atI2, atI3, atI4, ixN51, ixN52, ixN53, List.length_map, wNever, scal, V.int.injEq, V.str.injEq, V.bl.injEq, wSq, wNext, wBreak, wCont, wDrop, wRet, wRetN, wIfS, wAsg, wPar, wLstOwn, wAppend, wSetOwn, wIxOwn, wPeek, wRetOwn, wRetFr, wFor, wB, wNot, wAnd, wOr, wAndV, wOrV, wNotV, wIf, wChain, wNil, wCons, wCB, wTup, wLst, wNoPart, wPart, wSlT, wSlL, wSeq, wRng1, wRng2, wZip, wName, wNilT, wConsT, wTupT, wYes, wNeg, wVar, wC, wOp, wcNil, wcCons, wcOwn, wCall, wCallOwn, slots, cellsOf, OwnArgs, putBack, g2I, g2IC, gLen, gAbs, gGcd, gInt1, gTupleOf, gListOf, gIx, gCatT, gCat, gEq, gNe, gIsN, gNotN, scD, seqD_t, seqD_l, seqD_f, isNonD, List.nodup_cons, List.mem_cons, List.not_mem_nil, or_false, not_false_eq_true, Nat.reduceEqDiff, L3.Keeps, ends, wipeD, List.replicate, List.cons_append, List.nil_append, List.append_nil, List.getElem?_cons_zero, List.getElem?_cons_succ, List.set_cons_zero, List.set_cons_succ, List.getD_cons_zero, List.getD_cons_succ, List.length_cons, List.length_nil, List.nodup_nil, Option.some.injEq, Cell.dat.injEq, Cell.own.injEq, Cont.lst.injEq, D.bl.injEq, D.int.injEq, D.str.injEq, D.tup.injEq, D.lst.injEq, Arg.d.injEq, List.cons.injEq, exists_and_left, exists_and_right, exists_eq_left', exists_eq_left, exists_eq_right, exists_eq_right', exists_eq, exists_eq', and_true, true_and, and_assoc, and_self, exists_const, reduceCtorEq, web_wE, web_pE, webD_inj]
    refine ⟨by omega, by omega, ?_⟩
    rw [take_sn ew, lcmF_sn]
  · rintro τ2 ⟨c2, rfl⟩
    rw [iD_len, List.take_length]
    simp only [wPeekR, wTor, wSor, wXor, gNotInL, wAugVC, wRetOwnG, wRetSortFr, wExtend, gMaxT, gMinT, wAppendB, gRepT1, wFrzD, dcOf, wKeys, wDGet, wDIn, wDkNew, wDtNew, wDlNew, wLate, wPopAt, wIsiT, wRepOwn, gRepL, wAugSOwn, wListRgOwn, wZipK3, gRepT, wCountB, wIndexB, wIsiOwn, wPeekL, wCallFr, wStar, wSortSet, wTryAs, wIsE, offE, wListRg1, wListRg2, wRngDown, wZipK, gInL, gNotInT, wCatOwn, gIsB, gNotB, D.adr.injEq, Cont.pool.injEq, ixN31, ne_eq, List.map_cons, List.map_nil, wPoolOpen, wPoolClose, wPop0, wPopTo, wListOwn, wRemove, wRaise0, wRaise1, wAugOwn, wEnumL, wTru, wSlA, gCatA, gLtT, gLeT, wFrz, wChain3, wAttr, wMkF, wEnumT, wRevT, wDict0, wDict1, numD3, Nat.reduceAdd, atI0, atI1, atI2, atI3, atI4, ixN51, ixN52, ixN53, List.length_map, wNever, scal, V.int.injEq, V.str.injEq, V.bl.injEq, wSq, wNext, wBreak, wCont, wDrop, wRet, wRetN, wIfS, wAsg, wPar, wLstOwn, wAppend, wSetOwn, wIxOwn, wPeek, wRetOwn, wRetFr, wFor, wB, wNot, wAnd, wOr, wAndV, wOrV, wNotV, wIf, wChain, wNil, wCons, wCB, wTup, wLst, wNoPart, wPart, wSlT, wSlL, wSeq, wRng1, wRng2, wZip, wName, wNilT, wConsT, wTupT, wYes, wNeg, wVar, wC, wOp, wcNil, wcCons, wcOwn, wCall, wCallOwn, slots, cellsOf, OwnArgs, putBack, g2I, g2IC, gLen, gAbs, gGcd, gInt1, gTupleOf, gListOf, gIx, gCatT, gCat, gEq, gNe, gIsN, gNotN, scD, seqD_t, seqD_l, seqD_f, isNonD, List.nodup_cons, List.mem_cons, List.not_mem_nil, or_false, not_false_eq_true, Nat.reduceEqDiff, L3.Keeps, ends, wipeD, List.replicate, List.cons_append, List.nil_append, List.append_nil, List.getElem?_cons_zero, List.getElem?_cons_succ, List.set_cons_zero, List.set_cons_succ, List.getD_cons_zero, List.getD_cons_succ, List.length_cons, List.length_nil, List.nodup_nil, Option.some.injEq, Cell.dat.injEq, Cell.own.injEq, Cont.lst.injEq, D.bl.injEq, D.int.injEq, D.str.injEq, D.tup.injEq, D.lst.injEq, Arg.d.injEq, List.cons.injEq, exists_and_left, exists_and_right, exists_eq_left', exists_eq_left, exists_eq_right, exists_eq_right', exists_eq, exists_eq', and_true, true_and, and_assoc, and_self, exists_const, reduceCtorEq, web_wE, web_pE, webD_inj]
    refine c2_shares_of_ok hw ?_
    simp only [wPeekR, wTor, wSor, wXor, gNotInL, wAugVC, wRetOwnG, wRetSortFr, wExtend, gMaxT, gMinT, wAppendB, gRepT1, wFrzD, dcOf, wKeys, wDGet, wDIn, wDkNew, wDtNew, wDlNew, wLate, wPopAt, wIsiT, wRepOwn, gRepL, wAugSOwn, wListRgOwn, wZipK3, gRepT, wCountB, wIndexB, wIsiOwn, wPeekL, wCallFr, wStar, wSortSet, wTryAs, wIsE, offE, wListRg1, wListRg2, wRngDown, wZipK, gInL, gNotInT, wCatOwn, gIsB, gNotB, D.adr.injEq, Cont.pool.injEq, ixN31, ne_eq, List.map_cons, List.map_nil, wPoolOpen, wPoolClose, wPop0, wPopTo, wListOwn, wRemove, wRaise0, wRaise1, wAugOwn, wEnumL, wTru, wSlA, gCatA, gLtT, gLeT, wFrz, wChain3, wAttr, wMkF, wEnumT, wRevT, wDict0, wDict1, numD3, Nat.reduceAdd, atI0, atI1, atI2, atI3, atI4, ixN51, ixN52, ixN53, List.length_map, wNever, scal, V.int.injEq, V.str.injEq, V.bl.injEq, wSq, wNext, wBreak, wCont, wDrop, wRet, wRetN, wIfS, wAsg, wPar, wLstOwn, wAppend, wSetOwn, wIxOwn, wPeek, wRetOwn, wRetFr, wFor, wB, wNot, wAnd, wOr, wAndV, wOrV, wNotV, wIf, wChain, wNil, wCons, wCB, wTup, wLst, wNoPart, wPart, wSlT, wSlL, wSeq, wRng1, wRng2, wZip, wName, wNilT, wConsT, wTupT, wYes, wNeg, wVar, wC, wOp, wcNil, wcCons, wcOwn, wCall, wCallOwn, slots, cellsOf, OwnArgs, putBack, g2I, g2IC, gLen, gAbs, gGcd, gInt1, gTupleOf, gListOf, gIx, gCatT, gCat, gEq, gNe, gIsN, gNotN, scD, seqD_t, seqD_l, seqD_f, isNonD, List.nodup_cons, List.mem_cons, List.not_mem_nil, or_false, not_false_eq_true, Nat.reduceEqDiff, L3.Keeps, ends, wipeD, List.replicate, List.cons_append, List.nil_append, List.append_nil, List.getElem?_cons_zero, List.getElem?_cons_succ, List.set_cons_zero, List.set_cons_succ, List.getD_cons_zero, List.getD_cons_succ, List.length_cons, List.length_nil, List.nodup_nil, Option.some.injEq, Cell.dat.injEq, Cell.own.injEq, Cont.lst.injEq, D.bl.injEq, D.int.injEq, D.str.injEq, D.tup.injEq, D.lst.injEq, Arg.d.injEq, List.cons.injEq, exists_and_left, exists_and_right, exists_eq_left', exists_eq_left, exists_eq_right, exists_eq_right', exists_eq, exists_eq', and_true, true_and, and_assoc, and_self, exists_const, reduceCtorEq, web_wE, web_pE, webD_inj]
    exact ⟨by decide, hq⟩
theorem ok_shares_of (T : Txt K mg) : FnOk P w K mg base (L2.CX P w) 2 T.f_shares_of T.fd_shares_of ["web"] (spOf K 1 (fs_shares_of K T.Z)) := by
  refine def_ok T.F_shares_of sc_shares_of (wb := w_shares_of K T.Z) pure_shares_of ?_
  intro cdv A outer s H E hr tk
  exact ⟨_, (pss_cons (ps_set (i := 1) sc_shares_of.nd rfl (by first | exact Or.inl rfl | exact Or.inr rfl) pe_int)
      (pss_cons (ps_for (passes_of rfl) rfl (pi_seq (pe_fld (pv 0) rfl)) (pg_name (i := 2) sc_shares_of.nd rfl (by first | exact Or.inl rfl | exact Or.inr rfl))
        (pss_one (ps_set (i := 1) sc_shares_of.nd rfl (by first | exact Or.inl rfl | exact Or.inr rfl) (pe_callBfun cr_lcm (by rfl) T.m_lcm (pa_cons (pv 1) (pa_cons (pe_callB (call_max2 rfl) (by rfl) T.z_max (by decide +kernel) (pa_cons (pv 2) (pa_cons pe_int pa_nil))) pa_nil))))))
      (pss_one (ps_ret (pe_tup (pa_cons (pv 1) (pa_cons (pe_lc (own := [("width", 2)]) (g := (gName 2)) (tt := tYes) (te := (tCallS (spOf K 2 (fs_share K)) (L2.WE W0) (tCons (tVar 2) (tCons (tVar 1) tNil)))) rfl sc_shares_of.nd (pi_seq (pe_fld (pv 0) rfl)) (blkOk_by (N := ["web", "many", "width"]) (sc := defScope s_shares_of) (by decide +kernel)) (fun _ _ _ _ _ => (pg_name (i := 2) sc_shares_of.nd rfl (by first | exact Or.inl rfl | exact Or.inr rfl))) (fun _ _ _ _ _ => pts_nil) (fun _ _ _ _ _ => (pe_callS (ok_share T) (hr.mono (by decide)) rfl T.g_share T.k_share T.b_share (fun σ => passAt L2.takes0 σ) (pa_cons (pv 2) (pa_cons (pv 1) pa_nil))))) pa_nil))))))),
    (ds_seq (ds_asg de_int (dg_name 1))
      (ds_seq (ds_for (wI := (wSeq (wAttr T.Z.C_Web "widths" (wVar 0)))) (wg := (wName 2)) (wb := (wAsg (wCB gLcm (wCons (wVar 1) (wCons (wCB gMax2 (wCons (wVar 2) (wCons (wC (.int 1)) wNil))) wNil))) (wName 1))) (di_seq (de_fld T.it_Web.cl T.na_Web_widths (de_var 0))) (dg_name 2) (ds_asg (de_cb o_lcm (da_cons (de_var 1) (da_cons (de_cb o_max2 (da_cons (de_var 2) (da_cons de_int da_nil))) da_nil))) (dg_name 1)))
      (ds_ret (de_tup (da_cons (de_var 1) (da_cons (de_lc (vs := [2]) (wI := (wSeq (wAttr T.Z.C_Web "widths" (wVar 0)))) (wg := (wName 2)) (wt := wYes) (we := (wCall 2 (fs_share K) (wcCons (wVar 2) (wcCons (wVar 1) wcNil)))) (di_seq (de_fld T.it_Web.cl T.na_Web_widths (de_var 0))) (dg_name 2) dt_yes (de_call (n := 2) (fs := fs_share K) (dac_cons (de_var 2) (dac_cons (de_var 1) dac_nil))) (by decide)) da_nil))))))⟩
abbrev s_window : Stmt := topS 20
theorem sc_window : FnScope ["steps", "ran", "least", "most", "low", "high"] ["steps", "ran", "least", "most"] (defScope s_window) := ⟨rfl, rfl, rfl, by decide +kernel, rfl, by decide +kernel, by decide +kernel⟩
def w_window (K : PySem.W.Frag) (R : FS) : SW := (wSq (wIfS (wB (wOp gLtI (wVar 1) (wC (.int 0)))) (wSq (wAsg (wCall 4 R (wcCons (wVar 0) (wcCons (wNeg (wVar 1)) (wcCons (wNeg (wVar 3)) (wcCons (wNeg (wVar 2)) wcNil))))) (wTupT 2 (wConsT (wName 4) (wConsT (wName 5) wNilT))))
  (wRet (wTup (wCons (wNeg (wVar 5)) (wCons (wNeg (wVar 4)) wNil))))) wNext)
  (wSq (wIfS (wB (wOp gEq (wVar 1) (wC (.int 0)))) (wRet (wTup (wCons (wCB gMax2 (wCons (wOp gSubI (wC (.int 1)) (wOp gIx (wVar 0) (wC (.int 0)))) (wCons (wOp gAddI (wOp gSubI (wC (.int 1)) (wOp gIx (wVar 0) (wC (.int 0)))) (wVar 2)) wNil))) (wCons (wCB gMin2 (wCons (wOp gSubI (wOp gIx (wVar 0) (wC (.int 0))) (wC (.int 1))) (wCons (wOp gAddI (wOp gSubI (wOp gIx (wVar 0) (wC (.int 0))) (wC (.int 1))) (wVar 3)) wNil))) wNil)))) wNext)
  (wSq (wPar 4 5 (wCons (wOp gIx (wVar 0) (wOp gSubI (wVar 1) (wC (.int 1)))) (wCons (wOp gSubI (wVar 3) (wOp gIx (wVar 0) (wOp gSubI (wVar 1) (wC (.int 1))))) wNil)))
  (wSq (wIfS (wB (wOp gLtI (wVar 1) (wCB gLen (wCons (wVar 0) wNil)))) (wRet (wTup (wCons (wCB gMax2 (wCons (wVar 4) (wCons (wOp gAddI (wOp gSubI (wVar 2) (wOp gIx (wVar 0) (wVar 1))) (wC (.int 1))) wNil))) (wCons (wCB gMin2 (wCons (wVar 5) (wCons (wOp gSubI (wOp gIx (wVar 0) (wVar 1)) (wC (.int 1))) wNil))) wNil)))) wNext)
  (wRet (wTup (wCons (wVar 4) (wCons (wVar 5) wNil))))))))
def winP (st : List Int) (r : Nat) (least most : Int) : Int × Int :=
  if r = 0 then (mxI (1 - st.getD 0 0) (1 - st.getD 0 0 + least), mnI (st.getD 0 0 - 1) (st.getD 0 0 - 1 + most))
  else if r < st.length then (mxI (st.getD (r - 1) 0) (least - st.getD r 0 + 1), mnI (most - st.getD (r - 1) 0) (st.getD r 0 - 1)) else (st.getD (r - 1) 0, most - st.getD (r - 1) 0)
def winF (st : List Int) (ran least most : Int) : Int × Int :=
  if ran < 0 then (-(winP st ran.natAbs (-most) (-least)).2, -(winP st ran.natAbs (-most) (-least)).1) else winP st ran.natAbs least most
def fs_window (K : PySem.W.Frag) (n : Nat) : FS := fun cs q _ => ∃ (st : List Int) (ran least most : Int), cs = [.dat (.lst (iD st)), .dat (.int ran), .dat (.int least), .dat (.int most)] ∧ 1 ≤ n ∧ (ran < 0 → 2 ≤ n) ∧ 1 ≤ st.length ∧ st.length ≤ 100 ∧ ran.natAbs ≤ st.length ∧ q (.tup [.int (winF st ran least most).1, .int (winF st ran least most).2]) cs
theorem no_window {cs : List Cell} {q : D → List Cell → Prop} {e : Xn → List Cell → Prop} (h : fs_window K 0 cs q e) : False := by
  obtain ⟨_, _, _, _, _, h, _⟩ := h
  omega
theorem at_iD {st : List Int} {i : Nat} (h : i < st.length) : atI (iD st) ((i : Nat) : Int) = some (.int (st.getD i 0)) := atI_nat' (by
  unfold iD
  rw [List.getElem?_map, List.getD_eq_getElem?_getD, List.getElem?_eq_getElem h]
  rfl)
theorem pure_window {n : Nat} : PureD 4 2 (fs_window K (n + 1)) (w_window K (fs_window K n)) := by
  rintro cs q e - ⟨st, ran, least, most, rfl, -, hn, h1, h100, hr, hq⟩
  have e0 : atI (iD st) 0 = some (.int (st.getD 0 0)) := at_iD (i := 0) (by omega)
  simp only [w_window, gMax2, gMin2, seqD_l, e0, wPeekR, wTor, wSor, wXor, gNotInL, wAugVC, wRetOwnG, wRetSortFr, wExtend, gMaxT, gMinT, wAppendB, gRepT1, wFrzD, dcOf, wKeys, wDGet, wDIn, wDkNew, wDtNew, wDlNew, wLate, wPopAt, wIsiT, wRepOwn, gRepL, wAugSOwn, wListRgOwn, wZipK3, gRepT, wCountB, wIndexB, wIsiOwn, wPeekL, wCallFr, wStar, wSortSet, wTryAs, wIsE, offE, wListRg1, wListRg2, wRngDown, wZipK, gInL, gNotInT, wCatOwn, gIsB, gNotB, D.adr.injEq, Cont.pool.injEq, ixN31, ne_eq, List.map_cons, List.map_nil, wPoolOpen, wPoolClose, wPop0, wPopTo, wListOwn, wRemove, wRaise0, wRaise1, wAugOwn, wEnumL, wTru, wSlA, gCatA, gLtT, gLeT, wFrz, wChain3, wAttr, wMkF, wEnumT, wRevT, wDict0, wDict1, numD3, Nat.reduceAdd, atI0, atI1, atI2, atI3, atI4, ixN51, ixN52, ixN53, List.length_map, wNever, scal, V.int.injEq, V.str.injEq, V.bl.injEq, wSq, wNext, wBreak, wCont, wDrop, wRet, wRetN, wIfS, wAsg, wPar, wLstOwn, wAppend, wSetOwn, wIxOwn, wPeek, wRetOwn, wRetFr, wFor, wB, wNot, wAnd, wOr, wAndV, wOrV, wNotV, wIf, wChain, wNil, wCons, wCB, wTup, wLst, wNoPart, wPart, wSlT, wSlL, wSeq, wRng1, wRng2, wZip, wName, wNilT, wConsT, wTupT, wYes, wNeg, wVar, wC, wOp, wcNil, wcCons, wcOwn, wCall, wCallOwn, slots, cellsOf, OwnArgs, putBack, g2I, g2IC, gLen, gAbs, gGcd, gInt1, gTupleOf, gListOf, gIx, gCatT, gCat, gEq, gNe, gIsN, gNotN, scD, seqD_t, seqD_l, seqD_f, isNonD, List.nodup_cons, List.mem_cons, List.not_mem_nil, or_false, not_false_eq_true, Nat.reduceEqDiff, L3.Keeps, ends, wipeD, List.replicate, List.cons_append, List.nil_append, List.append_nil, List.getElem?_cons_zero, List.getElem?_cons_succ, List.set_cons_zero, List.set_cons_succ, List.getD_cons_zero, List.getD_cons_succ, List.length_cons, List.length_nil, List.nodup_nil, Option.some.injEq, Cell.dat.injEq, Cell.own.injEq, Cont.lst.injEq, D.bl.injEq, D.int.injEq, D.str.injEq, D.tup.injEq, D.lst.injEq, Arg.d.injEq, List.cons.injEq, exists_and_left, exists_and_right, exists_eq_left', exists_eq_left, exists_eq_right, exists_eq_right', exists_eq, exists_eq', and_true, true_and, and_assoc, and_self, exists_const, reduceCtorEq, web_wE, web_pE, webD_inj]
  unfold winF at hq
  refine ⟨fun z => ?_, fun z => ?_⟩
  · have z := of_decide_eq_true z
    rw [if_pos z] at hq
    have e1 : winF st (-ran) (-most) (-least) = winP st ran.natAbs (-most) (-least) := by
      unfold winF
      rw [if_neg (by omega)]
      congr 1
      omega
    refine ⟨st, -ran, -most, -least, rfl, by have := hn z; omega, fun y => by omega, h1, h100, by omega, ?_⟩
    rw [e1]
    simp only [wPeekR, wTor, wSor, wXor, gNotInL, wAugVC, wRetOwnG, wRetSortFr, wExtend, gMaxT, gMinT, wAppendB, gRepT1, wFrzD, dcOf, wKeys, wDGet, wDIn, wDkNew, wDtNew, wDlNew, wLate, wPopAt, wIsiT, wRepOwn, gRepL, wAugSOwn, wListRgOwn, wZipK3, gRepT, wCountB, wIndexB, wIsiOwn, wPeekL, wCallFr, wStar, wSortSet, wTryAs, wIsE, offE, wListRg1, wListRg2, wRngDown, wZipK, gInL, gNotInT, wCatOwn, gIsB, gNotB, D.adr.injEq, Cont.pool.injEq, ixN31, ne_eq, List.map_cons, List.map_nil, wPoolOpen, wPoolClose, wPop0, wPopTo, wListOwn, wRemove, wRaise0, wRaise1, wAugOwn, wEnumL, wTru, wSlA, gCatA, gLtT, gLeT, wFrz, wChain3, wAttr, wMkF, wEnumT, wRevT, wDict0, wDict1, numD3, Nat.reduceAdd, atI0, atI1, atI2, atI3, atI4, ixN51, ixN52, ixN53, List.length_map, wNever, scal, V.int.injEq, V.str.injEq, V.bl.injEq, wSq, wNext, wBreak, wCont, wDrop, wRet, wRetN, wIfS, wAsg, wPar, wLstOwn, wAppend, wSetOwn, wIxOwn, wPeek, wRetOwn, wRetFr, wFor, wB, wNot, wAnd, wOr, wAndV, wOrV, wNotV, wIf, wChain, wNil, wCons, wCB, wTup, wLst, wNoPart, wPart, wSlT, wSlL, wSeq, wRng1, wRng2, wZip, wName, wNilT, wConsT, wTupT, wYes, wNeg, wVar, wC, wOp, wcNil, wcCons, wcOwn, wCall, wCallOwn, slots, cellsOf, OwnArgs, putBack, g2I, g2IC, gLen, gAbs, gGcd, gInt1, gTupleOf, gListOf, gIx, gCatT, gCat, gEq, gNe, gIsN, gNotN, scD, seqD_t, seqD_l, seqD_f, isNonD, List.nodup_cons, List.mem_cons, List.not_mem_nil, or_false, not_false_eq_true, Nat.reduceEqDiff, L3.Keeps, ends, wipeD, List.replicate, List.cons_append, List.nil_append, List.append_nil, List.getElem?_cons_zero, List.getElem?_cons_succ, List.set_cons_zero, List.set_cons_succ, List.getD_cons_zero, List.getD_cons_succ, List.length_cons, List.length_nil, List.nodup_nil, Option.some.injEq, Cell.dat.injEq, Cell.own.injEq, Cont.lst.injEq, D.bl.injEq, D.int.injEq, D.str.injEq, D.tup.injEq, D.lst.injEq, Arg.d.injEq, List.cons.injEq, exists_and_left, exists_and_right, exists_eq_left', exists_eq_left, exists_eq_right, exists_eq_right', exists_eq, exists_eq', and_true, true_and, and_assoc, and_self, exists_const, reduceCtorEq, web_wE, web_pE, webD_inj]
    exact ⟨by decide, hq⟩
  · have z := of_decide_eq_false z
    rw [if_neg z] at hq
    obtain ⟨r, rfl⟩ := Int.eq_ofNat_of_zero_le (show 0 ≤ ran by omega)
    have er : ((r : Nat) : Int).natAbs = r := by omega
    rw [er] at hq hr
    unfold winP at hq
    refine ⟨fun y => ?_, fun y => ?_⟩
    · have y := of_decide_eq_true y
      rw [if_pos (by omega)] at hq
      exact ⟨by decide, hq⟩
    · have y := of_decide_eq_false y
      rw [if_neg (by omega)] at hq
      have e1 : atI (iD st) ((r : Int) - 1) = some (.int (st.getD (r - 1) 0)) := by
        have := at_iD (st := st) (i := r - 1) (by omega)
        have e : (((r - 1 : Nat)) : Int) = (r : Int) - 1 := by omega
        rw [e] at this
        exact this
      refine ⟨_, e1, _, e1, _, rfl, fun x => ?_, fun x => ?_⟩
      · have x := of_decide_eq_true x
        rw [iD_len] at x
        have x : r < st.length := by omega
        rw [if_pos x] at hq
        have e2 := at_iD x
        exact ⟨_, e2, _, rfl, _, rfl, _, e2, _, rfl, by decide, hq⟩
      · have x := of_decide_eq_false x
        rw [iD_len] at x
        rw [if_neg (by omega)] at hq
        exact ⟨by decide, hq⟩
theorem ok_window (T : Txt K mg) : ∀ n, FnOk P w K mg base (L2.CX P w) n T.f_window T.fd_window ["steps", "ran", "least", "most"] (spOf K 4 (fs_window K n))
  | 0 => ⟨fun vs H Q E h => h.1, fun A outer s H args us vs Q E _ _ _ _ ⟨_, _, _, _, _, _, h, _⟩ => (no_window h).elim⟩
  | n + 1 => by
    have ih := ok_window T n
    refine def_ok T.F_window sc_window (wb := w_window K (fs_window K n)) pure_window ?_
    intro cdv A outer s H E hr tk
    exact ⟨_, (pss_cons (ps_if (pt_cmpR op_lt (pv 1) pe_int (nomark _))
        (pss_cons (ps_asg (pe_callS ih hr rfl T.g_window T.k_window T.b_window (fun σ => passAt tk σ) (pa_cons (pv 0) (pa_cons (pe_un un_neg (pv 1)) (pa_cons (pe_un un_neg (pv 3)) (pa_cons (pe_un un_neg (pv 2)) pa_nil))))) (pg_tup (by rfl) (pgs_cons (pg_name (i := 4) sc_window.nd rfl (by first | exact Or.inl rfl | exact Or.inr rfl)) (pgs_cons (pg_name (i := 5) sc_window.nd rfl (by first | exact Or.inl rfl | exact Or.inr rfl)) pgs_nil))))
      (pss_one (ps_ret (pe_tup (pa_cons (pe_un un_neg (pv 5)) (pa_cons (pe_un un_neg (pv 4)) pa_nil))))))
        pss_nil)
      (pss_cons (ps_if (pt_cmpR op_eq (pv 1) pe_int (nomark _))
        (pss_one (ps_ret (pe_tup (pa_cons (pe_callB (call_max2 rfl) (by rfl) T.z_max (by decide +kernel) (pa_cons (pe_op op_sub pe_int (pe_ix ix_seq (pv 0) pe_int (fun _ _ => rfl))) (pa_cons (pe_op op_add (pe_op op_sub pe_int (pe_ix ix_seq (pv 0) pe_int (fun _ _ => rfl))) (pv 2)) pa_nil))) (pa_cons (pe_callB (call_min2 rfl) (by rfl) T.z_min (by decide +kernel) (pa_cons (pe_op op_sub (pe_ix ix_seq (pv 0) pe_int (fun _ _ => rfl)) pe_int) (pa_cons (pe_op op_add (pe_op op_sub (pe_ix ix_seq (pv 0) pe_int (fun _ _ => rfl)) pe_int) (pv 3)) pa_nil))) pa_nil)))))
        pss_nil)
      (pss_cons (ps_par (i := 4) (j := 5) (by rfl) sc_window.nd rfl rfl (by decide) rfl rfl (pa_cons (pe_ix ix_seq (pv 0) (pe_op op_sub (pv 1) pe_int) (fun _ _ => rfl)) (pa_cons (pe_op op_sub (pv 3) (pe_ix ix_seq (pv 0) (pe_op op_sub (pv 1) pe_int) (fun _ _ => rfl))) pa_nil)) (by rfl))
      (pss_cons (ps_if (pt_cmpR op_lt (pv 1) (pe_callB call_len_seq (by rfl) T.z_len (by decide +kernel) (pa_cons (pv 0) pa_nil)) (nomark _))
        (pss_one (ps_ret (pe_tup (pa_cons (pe_callB (call_max2 rfl) (by rfl) T.z_max (by decide +kernel) (pa_cons (pv 4) (pa_cons (pe_op op_add (pe_op op_sub (pv 2) (pe_ix ix_seq (pv 0) (pv 1) (fun _ _ => rfl))) pe_int) pa_nil))) (pa_cons (pe_callB (call_min2 rfl) (by rfl) T.z_min (by decide +kernel) (pa_cons (pv 5) (pa_cons (pe_op op_sub (pe_ix ix_seq (pv 0) (pv 1) (fun _ _ => rfl)) pe_int) pa_nil))) pa_nil)))))
        pss_nil)
      (pss_one (ps_ret (pe_tup (pa_cons (pv 4) (pa_cons (pv 5) pa_nil))))))))),
      (ds_seq (ds_if (dt_B (de_op o_lt (de_var 1) de_int)) (ds_seq (ds_asg (de_call (n := 4) (fs := fs_window K n) (dac_cons (de_var 0) (dac_cons (de_neg (de_var 1)) (dac_cons (de_neg (de_var 3)) (dac_cons (de_neg (de_var 2)) dac_nil))))) (dg_tup (n := 2) (dgs_cons (dg_name 4) (dgs_cons (dg_name 5) dgs_nil))))
      (ds_ret (de_tup (da_cons (de_neg (de_var 5)) (da_cons (de_neg (de_var 4)) da_nil))))) ds_nil)
      (ds_seq (ds_if (dt_B (de_op o_eq (de_var 1) de_int)) (ds_ret (de_tup (da_cons (de_cb o_max2 (da_cons (de_op o_sub de_int (de_op o_ix (de_var 0) de_int)) (da_cons (de_op o_add (de_op o_sub de_int (de_op o_ix (de_var 0) de_int)) (de_var 2)) da_nil))) (da_cons (de_cb o_min2 (da_cons (de_op o_sub (de_op o_ix (de_var 0) de_int) de_int) (da_cons (de_op o_add (de_op o_sub (de_op o_ix (de_var 0) de_int) de_int) (de_var 3)) da_nil))) da_nil)))) ds_nil)
      (ds_seq (ds_par (i := 4) (j := 5) (da_cons (de_op o_ix (de_var 0) (de_op o_sub (de_var 1) de_int)) (da_cons (de_op o_sub (de_var 3) (de_op o_ix (de_var 0) (de_op o_sub (de_var 1) de_int))) da_nil)))
      (ds_seq (ds_if (dt_B (de_op o_lt (de_var 1) (de_cb o_len (da_cons (de_var 0) da_nil)))) (ds_ret (de_tup (da_cons (de_cb o_max2 (da_cons (de_var 4) (da_cons (de_op o_add (de_op o_sub (de_var 2) (de_op o_ix (de_var 0) (de_var 1))) de_int) da_nil))) (da_cons (de_cb o_min2 (da_cons (de_var 5) (da_cons (de_op o_sub (de_op o_ix (de_var 0) (de_var 1)) de_int) da_nil))) da_nil)))) ds_nil)
      (ds_ret (de_tup (da_cons (de_var 4) (da_cons (de_var 5) da_nil))))))))⟩
abbrev s_leeways : Stmt := topS 36
theorem sc_leeways : FnScope ["web", "many", "shares", "pattern", "nets", "found", "one", "other", "thresholds", "ran", "step", "low", "high"] ["web", "many", "shares", "pattern"] (defScope s_leeways) := ⟨rfl, rfl, rfl, by decide +kernel, rfl, by decide +kernel, by decide +kernel⟩
def l1_leeways (K : PySem.W.Frag) (Z : CT) : SW := wFor (wZip (wCons (wAttr Z.C_Web "pipes" (wVar 0)) (wCons (wVar 3) wNil))) (wTupT 2 (wConsT (wTupT 3 (wConsT (wName 6) (wConsT (wName 7) (wConsT (wName 8) wNilT)))) (wConsT (wName 9) wNilT))) (wSq (wAsg (wOp gSubI (wOp gMulA (wOp gIx (wVar 4) (wVar 6)) (wOp gIx (wVar 2) (wVar 6))) (wOp gMulA (wOp gIx (wVar 4) (wVar 7)) (wOp gIx (wVar 2) (wVar 7)))) (wName 10))
  (wSq (wAsg (wCall 4 (fs_window K 3) (wcCons (wCall 2 (fs_in_grains K) (wcCons (wVar 8) (wcCons (wVar 1) wcNil))) (wcCons (wVar 9) (wcCons (wVar 10) (wcCons (wVar 10) wcNil))))) (wTupT 2 (wConsT (wName 11) (wConsT (wName 12) wNilT))))
  (wSq (wIfS (wB (wOp gGtI (wVar 11) (wVar 12))) (wRet (wC .non)) wNext)
  (wAppend 5 (wCons (wOp gSubI (wVar 12) (wVar 11)) wNil)))))
def w_leeways (K : PySem.W.Frag) (Z : CT) : SW := (wSq (wAsg (wCall 2 (fs_nets_by K Z) (wcCons (wVar 0) (wcCons (wVar 3) wcNil))) (wName 4))
  (wSq (wLstOwn 5 wNil)
  (wSq (l1_leeways K Z)
  (wRetOwn 5))))
abbrev Pp := Nat × Nat × List Int
/-- a vessel's net, by flows -/
def netV : List Pp → List Int → Nat → Int
  | p :: ps, r :: rs, v => (if p.1 = v then r else 0) - (if p.2.1 = v then r else 0) + netV ps rs v
  | _, _, _ => 0
def netL' (n : Nat) (ps : List Pp) (f : List Int) : List Int := (List.range n).map (netV ps f)
/-- thresholds in grains -/
def unT (m : Int) (t : Th) : Int := (t.1 * m + t.2 - 1) / t.2
def unP (m : Int) (p : Pt) : Pp := (p.1, p.2.1, p.2.2.map (unT m))
/-- how far the places of a pipe may lie apart -/
def spanF (sh nets : List Int) (p : Pp) (r : Int) : Int × Int := winF p.2.2 r (nets.getD p.1 0 * sh.getD p.1 0 - nets.getD p.2.1 0 * sh.getD p.2.1 0) (nets.getD p.1 0 * sh.getD p.1 0 - nets.getD p.2.1 0 * sh.getD p.2.1 0)
def leeF (sh nets : List Int) : List Pp → List Int → Option (List Int)
  | p :: ps, r :: rs => if (spanF sh nets p r).2 < (spanF sh nets p r).1 then none else (leeF sh nets ps rs).map fun l => ((spanF sh nets p r).2 - (spanF sh nets p r).1) :: l
  | _, _ => some []
theorem leeF_no {sh nets : List Int} {p : Pp} {r : Int} {ps : List Pp} {rs : List Int} (h : (spanF sh nets p r).2 < (spanF sh nets p r).1) : leeF sh nets (p :: ps) (r :: rs) = none := by
  unfold leeF
  exact if_pos h
theorem leeF_yes {sh nets : List Int} {p : Pp} {r : Int} {ps : List Pp} {rs : List Int} (h : ¬ (spanF sh nets p r).2 < (spanF sh nets p r).1) : leeF sh nets (p :: ps) (r :: rs) = (leeF sh nets ps rs).map fun l => ((spanF sh nets p r).2 - (spanF sh nets p r).1) :: l := by
  rw [leeF]
  exact if_neg h
theorem netV_snoc {v : Nat} {p : Pp} {r : Int} : ∀ {ps : List Pp} {rs : List Int}, ps.length = rs.length → netV (ps ++ [p]) (rs ++ [r]) v = netV ps rs v + ((if p.1 = v then r else 0) - (if p.2.1 = v then r else 0))
  | [], [], _ => by simp [netV]
  | [], _ :: _, h => by simp at h
  | _ :: _, [], h => by simp at h
  | q :: ps, s :: rs, h => by
    have ih := netV_snoc (v := v) (p := p) (r := r) (ps := ps) (rs := rs) (by simpa using h)
    show _ + netV (ps ++ [p]) (rs ++ [r]) v = _ + netV ps rs v + _
    rw [ih]
    omega
theorem netK_V {ps : List Pt} {f : List Int} {m : Int} {v : Nat} (hl : f.length = ps.length) : ∀ n, n ≤ ps.length → netK (ps.map ptD) (iD f) n v = netV ((ps.take n).map (unP m)) (f.take n) v
  | 0, _ => rfl
  | n + 1, h => by
    have ih := netK_V (m := m) (v := v) hl n (by omega)
    have e1 : ps[n]? = some ps[n] := List.getElem?_eq_getElem (by omega)
    have e2 : f[n]? = some (f[n]'(by omega)) := List.getElem?_eq_getElem (by omega)
    show netK _ _ n v + dlN (ps.map ptD)[n]? (iD f)[n]? v = _
    rw [ih, take_sn e1, take_sn e2, List.map_append, List.map_singleton, netV_snoc (by rw [List.length_map, List.length_take, List.length_take]; omega)]
    congr 1
    unfold iD
    rw [List.getElem?_map, List.getElem?_map, e1, e2]
    show (if ((ps[n].1 : Nat) : Int) = (v : Int) then _ else 0) - (if ((ps[n].2.1 : Nat) : Int) = (v : Int) then _ else 0) = _
    have c : ∀ a : Nat, (if ((a : Nat) : Int) = (v : Int) then f[n]'(by omega) else 0) = if a = v then f[n]'(by omega) else 0 := fun a => by
      by_cases z : a = v
      · rw [if_pos z, if_pos (by omega)]
      · rw [if_neg z, if_neg (by omega)]
    rw [c, c]
    rfl
theorem netS_eq {us : List Int} {ps : List Pt} {f : List Int} (m : Int) (hl : f.length = ps.length) : netS (iD us) (ps.map ptD) (iD f) = iD (netL' us.length (ps.map (unP m)) f) := by
  unfold netS netL netL' iD
  rw [List.length_map, List.length_map, List.map_map]
  refine List.map_congr_left fun v _ => ?_
  have := netK_V (m := m) (v := v) hl ps.length (Nat.le_refl _)
  rw [List.take_length, ← hl, List.take_length] at this
  unfold iD at this
  rw [hl] at this
  rw [this]
  rfl
theorem fl_ran {ps : List Pt} {f : List Int} (hl : f.length = ps.length) : RanV (ps.map ptD) (iD f) := ⟨by rw [iD_len, List.length_map, hl], fun d hd => by
  obtain ⟨x, _, rfl⟩ := List.mem_map.mp hd
  rfl⟩
theorem in_un {st : List Th} {m : Int} : (st.map thD).map (igD m) = iD (st.map (unT m)) := by
  unfold iD
  rw [List.map_map, List.map_map]
  rfl
def optL : Option (List Int) → D
  | none => .non
  | some l => .lst (iD l)
/-- the flows fit their pipes -/
def FlowF (ps : List Pt) (f : List Int) : Prop := f.length = ps.length ∧ ∀ (i : Nat) (p : Pt) (r : Int), ps[i]? = some p → f[i]? = some r → r.natAbs ≤ p.2.2.length
def ShB (us sh : List Int) : Prop := sh.length = us.length ∧ ∀ s ∈ sh, 0 ≤ s ∧ s ≤ 132
def fs_leeways (K : PySem.W.Frag) (Z : CT) : FS := fun cs q _ => ∃ us ps m sh f, cs = [.dat (webD Z.C_Web (.tup (iD us)) (.tup (ps.map ptD))), .dat (.int m), .dat (.lst (iD sh)), .dat (.tup (iD f))] ∧ WebK us ps ∧ 1 ≤ m ∧ m ≤ 132 ∧ ShB us sh ∧ FlowF ps f ∧
  q (optL (leeF sh (netL' us.length (ps.map (unP m)) f) (ps.map (unP m)) f)) cs
theorem ends_b {us : List Int} {ps : List Pt} (h : WebK us ps) {i : Nat} {p : Pt} (e : ps[i]? = some p) : p.1 < p.2.1 ∧ p.2.1 < us.length ∧ 1 ≤ p.2.2.length ∧ p.2.2.length ≤ 6 ∧ ∀ d ∈ p.2.2.map thD, isTh d = true := by
  obtain ⟨a, b, l, e1, a0, ab, bn, hl⟩ := pi_shape (h.w.2.2 (ptD p) (List.mem_map.mpr ⟨p, List.mem_of_getElem? e, rfl⟩))
  cases e1
  obtain ⟨st, e2, l1, l6, ht, _⟩ := liW hl
  cases e2
  rw [iD_len] at bn
  rw [List.length_map] at l1 l6
  exact ⟨by omega, by omega, l1, l6, ht⟩
theorem leeF_drop {sh nets : List Int} : ∀ {ps : List Pp} {f : List Int} {i : Nat} {p : Pp} {r : Int}, ps[i]? = some p → f[i]? = some r → leeF sh nets (ps.drop i) (f.drop i) = leeF sh nets (p :: ps.drop (i + 1)) (r :: f.drop (i + 1)) := fun {ps f i p r} h1 h2 => by
  obtain ⟨l1, e1⟩ := List.getElem?_eq_some_iff.mp h1
  obtain ⟨l2, e2⟩ := List.getElem?_eq_some_iff.mp h2
  rw [List.drop_eq_getElem_cons l1, List.drop_eq_getElem_cons l2, e1, e2]
theorem netL'_len {n : Nat} {ps : List Pp} {f : List Int} : (netL' n ps f).length = n := by
  unfold netL'
  rw [List.length_map, List.length_range]
theorem l1_leeways_ok {Z : CT} {us sh f : List Int} {ps : List Pt} {m : Int} {p5 : Addr} {c6 c7 c8 c9 c10 c11 c12 : Cell} {E : EndsD} (hw : WebK us ps) (m1 : 1 ≤ m) (m2 : m ≤ 132) (hs : ShB us sh) (hf : FlowF ps f)
    (hr : leeF sh (netL' us.length (ps.map (unP m)) f) (ps.map (unP m)) f = none → ∀ c5 c6 c7 c8 c9 c10 c11 c12, E.rt .non [.dat (webD Z.C_Web (.tup (iD us)) (.tup (ps.map ptD))), .dat (.int m), .dat (.lst (iD sh)), .dat (.tup (iD f)), .dat (.tup (iD (netL' us.length (ps.map (unP m)) f))), c5, c6, c7, c8, c9, c10, c11, c12])
    (hn : ∀ l, leeF sh (netL' us.length (ps.map (unP m)) f) (ps.map (unP m)) f = some l → ∀ c6 c7 c8 c9 c10 c11 c12, E.nx [.dat (webD Z.C_Web (.tup (iD us)) (.tup (ps.map ptD))), .dat (.int m), .dat (.lst (iD sh)), .dat (.tup (iD f)), .dat (.tup (iD (netL' us.length (ps.map (unP m)) f))), .own p5 (.lst (iD l)), c6, c7, c8, c9, c10, c11, c12]) :
    l1_leeways K Z E [.dat (webD Z.C_Web (.tup (iD us)) (.tup (ps.map ptD))), .dat (.int m), .dat (.lst (iD sh)), .dat (.tup (iD f)), .dat (.tup (iD (netL' us.length (ps.map (unP m)) f))), .own p5 (.lst []), c6, c7, c8, c9, c10, c11, c12] := by
  generalize hN : netL' us.length (ps.map (unP m)) f = N at *
  have nl : N.length = us.length := by rw [← hN, netL'_len]
  have fl := hf.1
  have h36 := hw.w.2.1
  rw [List.length_map] at h36
  have hz : (zipD (ps.map ptD) (iD f)).length = ps.length := by unfold zipD; rw [List.length_zipWith, List.length_map, iD_len, fl, Nat.min_self]
  unfold l1_leeways wFor
  simp only [fs_in_grains, fs_window, seqD_t, wPeekR, wTor, wSor, wXor, gNotInL, wAugVC, wRetOwnG, wRetSortFr, wExtend, gMaxT, gMinT, wAppendB, gRepT1, wFrzD, dcOf, wKeys, wDGet, wDIn, wDkNew, wDtNew, wDlNew, wLate, wPopAt, wIsiT, wRepOwn, gRepL, wAugSOwn, wListRgOwn, wZipK3, gRepT, wCountB, wIndexB, wIsiOwn, wPeekL, wCallFr, wStar, wSortSet, wTryAs, wIsE, offE, wListRg1, wListRg2, wRngDown, wZipK, gInL, gNotInT, wCatOwn, gIsB, gNotB, D.adr.injEq, Cont.pool.injEq, ixN31, ne_eq, List.map_cons, List.map_nil, wPoolOpen, wPoolClose, wPop0, wPopTo, wListOwn, wRemove, wRaise0, wRaise1, wAugOwn, wEnumL, wTru, wSlA, gCatA, gLtT, gLeT, wFrz, wChain3, wAttr, wMkF, wEnumT, wRevT, wDict0, wDict1, numD3, Nat.reduceAdd, atI0, atI1, atI2, atI3, atI4, ixN51, ixN52, ixN53, List.length_map, wNever, scal, V.int.injEq, V.str.injEq, V.bl.injEq, wSq, wNext, wBreak, wCont, wDrop, wRet, wRetN, wIfS, wAsg, wPar, wLstOwn, wAppend, wSetOwn, wIxOwn, wPeek, wRetOwn, wRetFr, wFor, wB, wNot, wAnd, wOr, wAndV, wOrV, wNotV, wIf, wChain, wNil, wCons, wCB, wTup, wLst, wNoPart, wPart, wSlT, wSlL, wSeq, wRng1, wRng2, wZip, wName, wNilT, wConsT, wTupT, wYes, wNeg, wVar, wC, wOp, wcNil, wcCons, wcOwn, wCall, wCallOwn, slots, cellsOf, OwnArgs, putBack, g2I, g2IC, gLen, gAbs, gGcd, gInt1, gTupleOf, gListOf, gIx, gCatT, gCat, gEq, gNe, gIsN, gNotN, scD, seqD_t, seqD_l, seqD_f, isNonD, List.nodup_cons, List.mem_cons, List.not_mem_nil, or_false, not_false_eq_true, Nat.reduceEqDiff, L3.Keeps, ends, wipeD, List.replicate, List.cons_append, List.nil_append, List.append_nil, List.getElem?_cons_zero, List.getElem?_cons_succ, List.set_cons_zero, List.set_cons_succ, List.getD_cons_zero, List.getD_cons_succ, List.length_cons, List.length_nil, List.nodup_nil, Option.some.injEq, Cell.dat.injEq, Cell.own.injEq, Cont.lst.injEq, D.bl.injEq, D.int.injEq, D.str.injEq, D.tup.injEq, D.lst.injEq, Arg.d.injEq, List.cons.injEq, exists_and_left, exists_and_right, exists_eq_left', exists_eq_left, exists_eq_right, exists_eq_right', exists_eq, exists_eq', and_true, true_and, and_assoc, and_self, exists_const, reduceCtorEq, web_wE, web_pE, webD_inj]
  refine ⟨fun i τ => ∃ (l : List Int) (c6 c7 c8 c9 c10 c11 c12 : Cell), τ = [.dat (webD Z.C_Web (.tup (iD us)) (.tup (ps.map ptD))), .dat (.int m), .dat (.lst (iD sh)), .dat (.tup (iD f)), .dat (.tup (iD N)), .own p5 (.lst (iD l)), c6, c7, c8, c9, c10, c11, c12] ∧ l.length = i ∧ leeF sh N (ps.map (unP m)) f = (leeF sh N ((ps.map (unP m)).drop i) (f.drop i)).map (l ++ ·), ⟨[], _, _, _, _, _, _, _, rfl, rfl, by simp⟩, ?_, ?_⟩
  · rintro i d τ2 hi ⟨l, c6, c7, c8, c9, c10, c11, c12, rfl, hl, hlee⟩
    have hlt := (List.getElem?_eq_some_iff.mp hi).1
    rw [hz] at hlt
    obtain ⟨x, y, hx, hy, hxy⟩ := zip_get (xs := ps.map ptD) (ys := iD f) (i := i) (by omega)
    rw [hxy] at hi
    cases hi
    rw [List.getElem?_map] at hx
    obtain ⟨p, ep, rfl⟩ := Option.map_eq_some_iff.mp hx
    obtain ⟨r, er, rfl⟩ := iD_at hy
    obtain ⟨b1, b2, b3, b4, b5⟩ := ends_b hw ep
    have hb := hf.2 i p r ep er
    have ep' : (ps.map (unP m))[i]? = some (unP m p) := by rw [List.getElem?_map, ep]; rfl
    have n1 := at_iD (st := N) (i := p.1) (by omega)
    have n2 := at_iD (st := N) (i := p.2.1) (by omega)
    have s1 := at_iD (st := sh) (i := p.1) (by rw [hs.1]; omega)
    have s2 := at_iD (st := sh) (i := p.2.1) (by rw [hs.1]; omega)
    have sb : ∀ k, 0 ≤ sh.getD k 0 ∧ sh.getD k 0 ≤ 132 := fun k => by
      rw [List.getD_eq_getElem?_getD]
      cases e : sh[k]? with
      | none => exact ⟨by decide, by decide⟩
      | some s => exact hs.2 s (List.mem_of_getElem? e)
    have sb1 := sb p.1
    have sb2 := sb p.2.1
    rw [leeF_drop ep' er] at hlee
    have sp : spanF sh N (unP m p) r = winF (p.2.2.map (unT m)) r (N.getD p.1 0 * sh.getD p.1 0 - N.getD p.2.1 0 * sh.getD p.2.1 0) (N.getD p.1 0 * sh.getD p.1 0 - N.getD p.2.1 0 * sh.getD p.2.1 0) := rfl
    simp only [ptD, n1, n2, s1, s2, wPeekR, wTor, wSor, wXor, gNotInL, wAugVC, wRetOwnG, wRetSortFr, wExtend, gMaxT, gMinT, wAppendB, gRepT1, wFrzD, dcOf, wKeys, wDGet, wDIn, wDkNew, wDtNew, wDlNew, wLate, wPopAt, wIsiT, wRepOwn, gRepL, wAugSOwn, wListRgOwn, wZipK3, gRepT, wCountB, wIndexB, wIsiOwn, wPeekL, wCallFr, wStar, wSortSet, wTryAs, wIsE, offE, wListRg1, wListRg2, wRngDown, wZipK, gInL, gNotInT, wCatOwn, gIsB, gNotB, D.adr.injEq, Cont.pool.injEq, ixN31, ne_eq, List.map_cons, List.map_nil, wPoolOpen, wPoolClose, wPop0, wPopTo, wListOwn, wRemove, wRaise0, wRaise1, wAugOwn, wEnumL, wTru, wSlA, gCatA, gLtT, gLeT, wFrz, wChain3, wAttr, wMkF, wEnumT, wRevT, wDict0, wDict1, numD3, Nat.reduceAdd, atI0, atI1, atI2, atI3, atI4, ixN51, ixN52, ixN53, List.length_map, wNever, scal, V.int.injEq, V.str.injEq, V.bl.injEq, wSq, wNext, wBreak, wCont, wDrop, wRet, wRetN, wIfS, wAsg, wPar, wLstOwn, wAppend, wSetOwn, wIxOwn, wPeek, wRetOwn, wRetFr, wFor, wB, wNot, wAnd, wOr, wAndV, wOrV, wNotV, wIf, wChain, wNil, wCons, wCB, wTup, wLst, wNoPart, wPart, wSlT, wSlL, wSeq, wRng1, wRng2, wZip, wName, wNilT, wConsT, wTupT, wYes, wNeg, wVar, wC, wOp, wcNil, wcCons, wcOwn, wCall, wCallOwn, slots, cellsOf, OwnArgs, putBack, g2I, g2IC, gLen, gAbs, gGcd, gInt1, gTupleOf, gListOf, gIx, gCatT, gCat, gEq, gNe, gIsN, gNotN, scD, seqD_t, seqD_l, seqD_f, isNonD, List.nodup_cons, List.mem_cons, List.not_mem_nil, or_false, not_false_eq_true, Nat.reduceEqDiff, L3.Keeps, ends, wipeD, List.replicate, List.cons_append, List.nil_append, List.append_nil, List.getElem?_cons_zero, List.getElem?_cons_succ, List.set_cons_zero, List.set_cons_succ, List.getD_cons_zero, List.getD_cons_succ, List.length_cons, List.length_nil, List.nodup_nil, Option.some.injEq, Cell.dat.injEq, Cell.own.injEq, Cont.lst.injEq, D.bl.injEq, D.int.injEq, D.str.injEq, D.tup.injEq, D.lst.injEq, Arg.d.injEq, List.cons.injEq, exists_and_left, exists_and_right, exists_eq_left', exists_eq_left, exists_eq_right, exists_eq_right', exists_eq, exists_eq', and_true, true_and, and_assoc, and_self, exists_const, reduceCtorEq, web_wE, web_pE, webD_inj]
    refine ⟨cmul_r (by omega) (by omega), cmul_r (by omega) (by omega), b4, b5, m1, m2, _, in_un, by decide, fun _ => by decide, by rw [List.length_map]; exact b3, by rw [List.length_map]; omega, by rw [List.length_map]; exact hb, fun z => ?_, fun z => ?_⟩
    · have z := of_decide_eq_true z
      rw [← sp] at z
      refine hr ?_ _ _ _ _ _ _ _ _
      rw [hlee, leeF_no (p := unP m p) (r := r) z]
      rfl
    · have z := of_decide_eq_false z
      rw [← sp] at z
      refine ⟨by rw [iD_len]; omega, l ++ [(spanF sh N (unP m p) r).2 - (spanF sh N (unP m p) r).1], by rw [sp]; unfold iD; rw [List.map_append]; rfl, by rw [List.length_append, hl]; rfl, ?_⟩
      rw [hlee, leeF_yes (p := unP m p) (r := r) z, Option.map_map]
      congr 1
      funext x
      show l ++ (_ :: x) = l ++ [_] ++ x
      rw [List.append_assoc]
      rfl
  · rintro τ2 ⟨l, c6, c7, c8, c9, c10, c11, c12, rfl, hl, hlee⟩
    rw [hz] at hl
    rw [List.drop_of_length_le (by rw [List.length_map]; omega), List.drop_of_length_le (by omega)] at hlee
    exact hn l (by rw [hlee]; simp [leeF]) _ _ _ _ _ _ _
theorem pure_leeways {Z : CT} : PureD 4 9 (fs_leeways K Z) (w_leeways K Z) := by
  rintro cs q e - ⟨us, ps, m, sh, f, rfl, hw, m1, m2, hs, hf, hq⟩
  simp only [w_leeways, fs_nets_by, seqD_t, wPeekR, wTor, wSor, wXor, gNotInL, wAugVC, wRetOwnG, wRetSortFr, wExtend, gMaxT, gMinT, wAppendB, gRepT1, wFrzD, dcOf, wKeys, wDGet, wDIn, wDkNew, wDtNew, wDlNew, wLate, wPopAt, wIsiT, wRepOwn, gRepL, wAugSOwn, wListRgOwn, wZipK3, gRepT, wCountB, wIndexB, wIsiOwn, wPeekL, wCallFr, wStar, wSortSet, wTryAs, wIsE, offE, wListRg1, wListRg2, wRngDown, wZipK, gInL, gNotInT, wCatOwn, gIsB, gNotB, D.adr.injEq, Cont.pool.injEq, ixN31, ne_eq, List.map_cons, List.map_nil, wPoolOpen, wPoolClose, wPop0, wPopTo, wListOwn, wRemove, wRaise0, wRaise1, wAugOwn, wEnumL, wTru, wSlA, gCatA, gLtT, gLeT, wFrz, wChain3, wAttr, wMkF, wEnumT, wRevT, wDict0, wDict1, numD3, Nat.reduceAdd, atI0, atI1, atI2, atI3, atI4, ixN51, ixN52, ixN53, List.length_map, wNever, scal, V.int.injEq, V.str.injEq, V.bl.injEq, wSq, wNext, wBreak, wCont, wDrop, wRet, wRetN, wIfS, wAsg, wPar, wLstOwn, wAppend, wSetOwn, wIxOwn, wPeek, wRetOwn, wRetFr, wFor, wB, wNot, wAnd, wOr, wAndV, wOrV, wNotV, wIf, wChain, wNil, wCons, wCB, wTup, wLst, wNoPart, wPart, wSlT, wSlL, wSeq, wRng1, wRng2, wZip, wName, wNilT, wConsT, wTupT, wYes, wNeg, wVar, wC, wOp, wcNil, wcCons, wcOwn, wCall, wCallOwn, slots, cellsOf, OwnArgs, putBack, g2I, g2IC, gLen, gAbs, gGcd, gInt1, gTupleOf, gListOf, gIx, gCatT, gCat, gEq, gNe, gIsN, gNotN, scD, seqD_t, seqD_l, seqD_f, isNonD, List.nodup_cons, List.mem_cons, List.not_mem_nil, or_false, not_false_eq_true, Nat.reduceEqDiff, L3.Keeps, ends, wipeD, List.replicate, List.cons_append, List.nil_append, List.append_nil, List.getElem?_cons_zero, List.getElem?_cons_succ, List.set_cons_zero, List.set_cons_succ, List.getD_cons_zero, List.getD_cons_succ, List.length_cons, List.length_nil, List.nodup_nil, Option.some.injEq, Cell.dat.injEq, Cell.own.injEq, Cont.lst.injEq, D.bl.injEq, D.int.injEq, D.str.injEq, D.tup.injEq, D.lst.injEq, Arg.d.injEq, List.cons.injEq, exists_and_left, exists_and_right, exists_eq_left', exists_eq_left, exists_eq_right, exists_eq_right', exists_eq, exists_eq', and_true, true_and, and_assoc, and_self, exists_const, reduceCtorEq, web_wE, web_pE, webD_inj]
  refine ⟨hw.w, fl_ran hf.1, by decide, fun p5 => ?_⟩
  rw [netS_eq m hf.1]
  refine l1_leeways_ok hw m1 m2 hs hf (fun z c5 c6 c7 c8 c9 c10 c11 c12 => ?_) fun l z c6 c7 c8 c9 c10 c11 c12 => ?_
  · rw [z] at hq
    simp only [wPeekR, wTor, wSor, wXor, gNotInL, wAugVC, wRetOwnG, wRetSortFr, wExtend, gMaxT, gMinT, wAppendB, gRepT1, wFrzD, dcOf, wKeys, wDGet, wDIn, wDkNew, wDtNew, wDlNew, wLate, wPopAt, wIsiT, wRepOwn, gRepL, wAugSOwn, wListRgOwn, wZipK3, gRepT, wCountB, wIndexB, wIsiOwn, wPeekL, wCallFr, wStar, wSortSet, wTryAs, wIsE, offE, wListRg1, wListRg2, wRngDown, wZipK, gInL, gNotInT, wCatOwn, gIsB, gNotB, D.adr.injEq, Cont.pool.injEq, ixN31, ne_eq, List.map_cons, List.map_nil, wPoolOpen, wPoolClose, wPop0, wPopTo, wListOwn, wRemove, wRaise0, wRaise1, wAugOwn, wEnumL, wTru, wSlA, gCatA, gLtT, gLeT, wFrz, wChain3, wAttr, wMkF, wEnumT, wRevT, wDict0, wDict1, numD3, Nat.reduceAdd, atI0, atI1, atI2, atI3, atI4, ixN51, ixN52, ixN53, List.length_map, wNever, scal, V.int.injEq, V.str.injEq, V.bl.injEq, wSq, wNext, wBreak, wCont, wDrop, wRet, wRetN, wIfS, wAsg, wPar, wLstOwn, wAppend, wSetOwn, wIxOwn, wPeek, wRetOwn, wRetFr, wFor, wB, wNot, wAnd, wOr, wAndV, wOrV, wNotV, wIf, wChain, wNil, wCons, wCB, wTup, wLst, wNoPart, wPart, wSlT, wSlL, wSeq, wRng1, wRng2, wZip, wName, wNilT, wConsT, wTupT, wYes, wNeg, wVar, wC, wOp, wcNil, wcCons, wcOwn, wCall, wCallOwn, slots, cellsOf, OwnArgs, putBack, g2I, g2IC, gLen, gAbs, gGcd, gInt1, gTupleOf, gListOf, gIx, gCatT, gCat, gEq, gNe, gIsN, gNotN, scD, seqD_t, seqD_l, seqD_f, isNonD, List.nodup_cons, List.mem_cons, List.not_mem_nil, or_false, not_false_eq_true, Nat.reduceEqDiff, L3.Keeps, ends, wipeD, List.replicate, List.cons_append, List.nil_append, List.append_nil, List.getElem?_cons_zero, List.getElem?_cons_succ, List.set_cons_zero, List.set_cons_succ, List.getD_cons_zero, List.getD_cons_succ, List.length_cons, List.length_nil, List.nodup_nil, Option.some.injEq, Cell.dat.injEq, Cell.own.injEq, Cont.lst.injEq, D.bl.injEq, D.int.injEq, D.str.injEq, D.tup.injEq, D.lst.injEq, Arg.d.injEq, List.cons.injEq, exists_and_left, exists_and_right, exists_eq_left', exists_eq_left, exists_eq_right, exists_eq_right', exists_eq, exists_eq', and_true, true_and, and_assoc, and_self, exists_const, reduceCtorEq, web_wE, web_pE, webD_inj]
    exact hq
  · rw [z] at hq
    simp only [wPeekR, wTor, wSor, wXor, gNotInL, wAugVC, wRetOwnG, wRetSortFr, wExtend, gMaxT, gMinT, wAppendB, gRepT1, wFrzD, dcOf, wKeys, wDGet, wDIn, wDkNew, wDtNew, wDlNew, wLate, wPopAt, wIsiT, wRepOwn, gRepL, wAugSOwn, wListRgOwn, wZipK3, gRepT, wCountB, wIndexB, wIsiOwn, wPeekL, wCallFr, wStar, wSortSet, wTryAs, wIsE, offE, wListRg1, wListRg2, wRngDown, wZipK, gInL, gNotInT, wCatOwn, gIsB, gNotB, D.adr.injEq, Cont.pool.injEq, ixN31, ne_eq, List.map_cons, List.map_nil, wPoolOpen, wPoolClose, wPop0, wPopTo, wListOwn, wRemove, wRaise0, wRaise1, wAugOwn, wEnumL, wTru, wSlA, gCatA, gLtT, gLeT, wFrz, wChain3, wAttr, wMkF, wEnumT, wRevT, wDict0, wDict1, numD3, Nat.reduceAdd, atI0, atI1, atI2, atI3, atI4, ixN51, ixN52, ixN53, List.length_map, wNever, scal, V.int.injEq, V.str.injEq, V.bl.injEq, wSq, wNext, wBreak, wCont, wDrop, wRet, wRetN, wIfS, wAsg, wPar, wLstOwn, wAppend, wSetOwn, wIxOwn, wPeek, wRetOwn, wRetFr, wFor, wB, wNot, wAnd, wOr, wAndV, wOrV, wNotV, wIf, wChain, wNil, wCons, wCB, wTup, wLst, wNoPart, wPart, wSlT, wSlL, wSeq, wRng1, wRng2, wZip, wName, wNilT, wConsT, wTupT, wYes, wNeg, wVar, wC, wOp, wcNil, wcCons, wcOwn, wCall, wCallOwn, slots, cellsOf, OwnArgs, putBack, g2I, g2IC, gLen, gAbs, gGcd, gInt1, gTupleOf, gListOf, gIx, gCatT, gCat, gEq, gNe, gIsN, gNotN, scD, seqD_t, seqD_l, seqD_f, isNonD, List.nodup_cons, List.mem_cons, List.not_mem_nil, or_false, not_false_eq_true, Nat.reduceEqDiff, L3.Keeps, ends, wipeD, List.replicate, List.cons_append, List.nil_append, List.append_nil, List.getElem?_cons_zero, List.getElem?_cons_succ, List.set_cons_zero, List.set_cons_succ, List.getD_cons_zero, List.getD_cons_succ, List.length_cons, List.length_nil, List.nodup_nil, Option.some.injEq, Cell.dat.injEq, Cell.own.injEq, Cont.lst.injEq, D.bl.injEq, D.int.injEq, D.str.injEq, D.tup.injEq, D.lst.injEq, Arg.d.injEq, List.cons.injEq, exists_and_left, exists_and_right, exists_eq_left', exists_eq_left, exists_eq_right, exists_eq_right', exists_eq, exists_eq', and_true, true_and, and_assoc, and_self, exists_const, reduceCtorEq, web_wE, web_pE, webD_inj]
    exact hq
theorem ok_leeways (T : Txt K mg) : FnOk P w K mg base (L2.CX P w) 4 T.f_leeways T.fd_leeways ["web", "many", "shares", "pattern"] (spOf K 4 (fs_leeways K T.Z)) := by
  refine def_ok T.F_leeways sc_leeways (wb := w_leeways K T.Z) pure_leeways ?_
  intro cdv A outer s H E hr tk
  exact ⟨_, (pss_cons (ps_set (i := 4) sc_leeways.nd rfl (by first | exact Or.inl rfl | exact Or.inr rfl) (pe_callS (ok_nets_by T) (hr.mono (by decide)) rfl T.g_nets_by T.k_nets_by T.b_nets_by (fun σ => passAt tk σ) (pa_cons (pv 0) (pa_cons (pv 3) pa_nil))))
      (pss_cons (ps_set (i := 5) sc_leeways.nd rfl (by first | exact Or.inl rfl | exact Or.inr rfl) (pe_lst pa_nil))
      (pss_cons (ps_for (passes_of rfl) rfl (RZ.pi_zipA (by rfl) T.z_zip (pa_cons (pe_fld (pv 0) rfl) (pa_cons (pv 3) pa_nil))) (pg_tup (by rfl) (pgs_cons (pg_tup (by rfl) (pgs_cons (pg_name (i := 6) sc_leeways.nd rfl (by first | exact Or.inl rfl | exact Or.inr rfl)) (pgs_cons (pg_name (i := 7) sc_leeways.nd rfl (by first | exact Or.inl rfl | exact Or.inr rfl)) (pgs_cons (pg_name (i := 8) sc_leeways.nd rfl (by first | exact Or.inl rfl | exact Or.inr rfl)) pgs_nil)))) (pgs_cons (pg_name (i := 9) sc_leeways.nd rfl (by first | exact Or.inl rfl | exact Or.inr rfl)) pgs_nil)))
        (pss_cons (ps_set (i := 10) sc_leeways.nd rfl (by first | exact Or.inl rfl | exact Or.inr rfl) (pe_op op_sub (pe_op op_mulA (pe_ix ix_seq (pv 4) (pv 6) (fun _ _ => rfl)) (pe_ix ix_seq (pv 2) (pv 6) (fun _ _ => rfl))) (pe_op op_mulA (pe_ix ix_seq (pv 4) (pv 7) (fun _ _ => rfl)) (pe_ix ix_seq (pv 2) (pv 7) (fun _ _ => rfl)))))
      (pss_cons (ps_asg (pe_callS (ok_window T 3) (hr.mono (by decide)) rfl T.g_window T.k_window T.b_window (fun σ => passAt tk σ) (pa_cons (pe_callS (ok_in_grains T) (hr.mono (by decide)) rfl T.g_in_grains T.k_in_grains T.b_in_grains (fun σ => passAt tk σ) (pa_cons (pv 8) (pa_cons (pv 1) pa_nil))) (pa_cons (pv 9) (pa_cons (pv 10) (pa_cons (pv 10) pa_nil))))) (pg_tup (by rfl) (pgs_cons (pg_name (i := 11) sc_leeways.nd rfl (by first | exact Or.inl rfl | exact Or.inr rfl)) (pgs_cons (pg_name (i := 12) sc_leeways.nd rfl (by first | exact Or.inl rfl | exact Or.inr rfl)) pgs_nil))))
      (pss_cons (ps_if (pt_cmpR op_gt (pv 11) (pv 12) (nomark _))
        (pss_one (ps_ret pe_non))
        pss_nil)
      (pss_one (ps_expr (pe_bm PySem.F.plainAttrs_list PySem.F.slot_list_append PySem.F.type_list_append mt_append (pv 5) (pa_cons (pe_op op_sub (pv 12) (pv 11)) pa_nil))))))))
      (pss_one (ps_ret (pv 5)))))),
    (ds_seq (ds_asg (de_call (n := 2) (fs := fs_nets_by K T.Z) (dac_cons (de_var 0) (dac_cons (de_var 3) dac_nil))) (dg_name 4))
      (ds_seq (ds_lstOwn (i := 5) da_nil)
      (ds_seq (ds_for (wI := (wZip (wCons (wAttr T.Z.C_Web "pipes" (wVar 0)) (wCons (wVar 3) wNil)))) (wg := (wTupT 2 (wConsT (wTupT 3 (wConsT (wName 6) (wConsT (wName 7) (wConsT (wName 8) wNilT)))) (wConsT (wName 9) wNilT)))) (wb := (wSq (wAsg (wOp gSubI (wOp gMulA (wOp gIx (wVar 4) (wVar 6)) (wOp gIx (wVar 2) (wVar 6))) (wOp gMulA (wOp gIx (wVar 4) (wVar 7)) (wOp gIx (wVar 2) (wVar 7)))) (wName 10))
  (wSq (wAsg (wCall 4 (fs_window K 3) (wcCons (wCall 2 (fs_in_grains K) (wcCons (wVar 8) (wcCons (wVar 1) wcNil))) (wcCons (wVar 9) (wcCons (wVar 10) (wcCons (wVar 10) wcNil))))) (wTupT 2 (wConsT (wName 11) (wConsT (wName 12) wNilT))))
  (wSq (wIfS (wB (wOp gGtI (wVar 11) (wVar 12))) (wRet (wC .non)) wNext)
  (wAppend 5 (wCons (wOp gSubI (wVar 12) (wVar 11)) wNil)))))) (di_zip (da_cons (de_fld T.it_Web.cl T.na_Web_pipes (de_var 0)) (da_cons (de_var 3) da_nil))) (dg_tup (n := 2) (dgs_cons (dg_tup (n := 3) (dgs_cons (dg_name 6) (dgs_cons (dg_name 7) (dgs_cons (dg_name 8) dgs_nil)))) (dgs_cons (dg_name 9) dgs_nil))) (ds_seq (ds_asg (de_op o_sub (de_op o_mulA (de_op o_ix (de_var 4) (de_var 6)) (de_op o_ix (de_var 2) (de_var 6))) (de_op o_mulA (de_op o_ix (de_var 4) (de_var 7)) (de_op o_ix (de_var 2) (de_var 7)))) (dg_name 10))
      (ds_seq (ds_asg (de_call (n := 4) (fs := (fs_window K 3)) (dac_cons (de_call (n := 2) (fs := fs_in_grains K) (dac_cons (de_var 8) (dac_cons (de_var 1) dac_nil))) (dac_cons (de_var 9) (dac_cons (de_var 10) (dac_cons (de_var 10) dac_nil))))) (dg_tup (n := 2) (dgs_cons (dg_name 11) (dgs_cons (dg_name 12) dgs_nil))))
      (ds_seq (ds_if (dt_B (de_op o_gt (de_var 11) (de_var 12))) (ds_ret de_non) ds_nil)
      (ds_append (i := 5) (da_cons (de_op o_sub (de_var 12) (de_var 11)) da_nil))))))
      (ds_retOwn (i := 5)))))⟩
abbrev s_least_places : Stmt := topS 37
theorem sc_least_places : FnScope ["web", "many", "shares", "nets", "apart", "places", "grains", "net", "ends", "one", "other", "_", "leeway", "both", "steady", "low", "high", "above", "jump"] ["web", "many", "shares", "nets", "apart"] (defScope s_least_places) := ⟨rfl, rfl, rfl, by decide +kernel, rfl, by decide +kernel, by decide +kernel⟩
def c1_least_places (K : PySem.W.Frag) (Z : CT) : SW := wLcOwn 5 (wZipK (wCons (wVar 2) (wCons (wVar 3) wNil))) (wTupT 2 (wConsT (wName 6) (wConsT (wName 7) wNilT))) wYes (wOp gMulA (wVar 6) (wOp gModI (wVar 7) (wC (.int 2)))) [6, 7]
def c2_least_places (K : PySem.W.Frag) (Z : CT) : EW := wLc (wZipK (wCons (wAttr Z.C_Web "pipes" (wVar 0)) (wCons (wVar 4) wNil))) (wTupT 2 (wConsT (wTupT 3 (wConsT (wName 9) (wConsT (wName 10) (wConsT (wName 11) wNilT)))) (wConsT (wName 12) wNilT))) wYes (wTup (wCons (wVar 9) (wCons (wVar 10) (wCons (wVar 12) wNil)))) [9, 10, 11, 12]
def c3_least_places (K : PySem.W.Frag) (Z : CT) : EW := wLc (wSeq (wVar 8)) (wTupT 3 (wConsT (wName 9) (wConsT (wName 10) (wConsT (wName 12) wNilT)))) wYes (wTup (wCons (wVar 10) (wCons (wVar 9) (wCons (wVar 12) wNil)))) [9, 10, 12]
def l4_least_places (K : PySem.W.Frag) (Z : CT) : SW := wFor (wSeq (wVar 13)) (wTupT 3 (wConsT (wName 15) (wConsT (wName 16) (wConsT (wName 12) wNilT)))) (wSq (wAsg (wOp gSubI (wOp gSubI (wIxOwn 5 (wVar 16)) (wIxOwn 5 (wVar 15))) (wVar 12)) (wName 17))
  (wIfS (wB (wOp gGtI (wVar 17) (wC (.int 0)))) (wSq (wIfS (wB (wOp gEq (wOp gIx (wVar 2) (wVar 15)) (wC (.int 0)))) (wRet (wC .non)) wNext)
  (wSq (wAsg (wOp gMulA (wC (.int 2)) (wOp gIx (wVar 2) (wVar 15))) (wName 18))
  (wSq (wAugOwn 5 (wVar 15) (wOp gMulA (wOp gDivW (wOp gSubI (wOp gAddI (wVar 17) (wVar 18)) (wC (.int 1))) (wVar 18)) (wVar 18)))
  (wSq (wIfS (wB (wOp gGtI (wIxOwn 5 (wVar 15)) (wVar 1))) (wRet (wC .non)) wNext)
  (wAsg (wC (.bl false)) (wName 14)))))) wNext))
def l5_least_places (K : PySem.W.Frag) (Z : CT) : SW := wWhile (wNot (wB (wVar 14))) (wSq (wAsg (wC (.bl true)) (wName 14))
  (l4_least_places K Z))
def w_least_places (K : PySem.W.Frag) (Z : CT) : SW := (wSq (c1_least_places K Z)
  (wSq (wAsg (c2_least_places K Z) (wName 8))
  (wSq (wAsg (wLst (wStar (wVar 8) (wStar (c3_least_places K Z) wNil))) (wName 13))
  (wSq (wAsg (wC (.bl false)) (wName 14))
  (wSq (l5_least_places K Z)
  (wRetOwn 5))))))
/-- a step of least_places -/
def abvF (pl : List Int) (lo hi : Nat) (l : Int) : Int := pl.getD hi 0 - pl.getD lo 0 - l
def newF (sh pl : List Int) (lo hi : Nat) (l : Int) : Int := pl.getD lo 0 + (abvF pl lo hi l + 2 * sh.getD lo 0 - 1) / (2 * sh.getD lo 0) * (2 * sh.getD lo 0)
def rndF (sh : List Int) (many : Int) : List (Nat × Nat × Int) → List Int → Bool → Option (List Int × Bool)
  | [], pl, s => some (pl, s)
  | (lo, hi, l) :: r, pl, s =>
    if 0 < abvF pl lo hi l then
      if sh.getD lo 0 = 0 then none
      else if many < newF sh pl lo hi l then none else rndF sh many r (pl.set lo (newF sh pl lo hi l)) false
    else rndF sh many r pl s
section
variable {sh pl : List Int} {many l : Int} {lo hi : Nat} {r : List (Nat × Nat × Int)} {s : Bool}
theorem rnd_1 (h : ¬ 0 < abvF pl lo hi l) : rndF sh many ((lo, hi, l) :: r) pl s = rndF sh many r pl s := by rw [rndF]; exact if_neg h
theorem rnd_2 (h : 0 < abvF pl lo hi l) (h2 : sh.getD lo 0 = 0) : rndF sh many ((lo, hi, l) :: r) pl s = none := by rw [rndF, if_pos h]; exact if_pos h2
theorem rnd_3 (h : 0 < abvF pl lo hi l) (h2 : ¬ sh.getD lo 0 = 0) (h3 : many < newF sh pl lo hi l) : rndF sh many ((lo, hi, l) :: r) pl s = none := by rw [rndF, if_pos h, if_neg h2]; exact if_pos h3
theorem rnd_4 (h : 0 < abvF pl lo hi l) (h2 : ¬ sh.getD lo 0 = 0) (h3 : ¬ many < newF sh pl lo hi l) : rndF sh many ((lo, hi, l) :: r) pl s = rndF sh many r (pl.set lo (newF sh pl lo hi l)) false := by rw [rndF, if_pos h, if_neg h2]; exact if_neg h3
end
def lpF (sh : List Int) (many : Int) (both : List (Nat × Nat × Int)) : Nat → List Int → Option (Option (List Int))
  | 0, _ => none
  | n + 1, pl => match rndF sh many both pl true with
    | none => some none
    | some (pl', true) => some (some pl')
    | some (pl', false) => lpF sh many both n pl'
def endT (ps : List Pp) (ap : List Int) : List (Nat × Nat × Int) := List.zipWith (fun p l => (p.1, p.2.1, l)) ps ap
def bothT (ps : List Pp) (ap : List Int) : List (Nat × Nat × Int) := endT ps ap ++ (endT ps ap).map fun p => (p.2.1, p.1, p.2.2)
def stP (sh nets : List Int) : List Int := List.zipWith (fun s n => s * (n % 2)) sh nets
def eD (e : Nat × Nat × Int) : D := .tup [.int (e.1 : Nat), .int (e.2.1 : Nat), .int e.2.2]
def fs_least_places (K : PySem.W.Frag) (Z : CT) : FS := fun cs q _ => ∃ us ps m M sh nets ap r, cs = [.dat (webD Z.C_Web (.tup (iD us)) (.tup (ps.map ptD))), .dat (.int M), .dat (.lst (iD sh)), .dat (.tup (iD nets)), .dat (.lst (iD ap))] ∧ WebK us ps ∧ ShB us sh ∧ nets.length = us.length ∧ ap.length = ps.length ∧
  lpF sh M (bothT (ps.map (unP m)) ap) 60 (stP sh nets) = some r ∧ q (optL r) cs
section
variable {Z : CT} {us sh nets ap pl : List Int} {ps : List Pt} {m M : Int} {p5 : Addr} {c0 c1 c2 c3 c4 c5 c6 c7 c8 c9 c10 c11 c12 c13 c14 c15 c16 c17 c18 : Cell} {E : EndsD} {both : List (Nat × Nat × Int)}
theorem sh_at (hs : ShB us sh) (k : Nat) : 0 ≤ sh.getD k 0 ∧ sh.getD k 0 ≤ 132 := by
  rw [List.getD_eq_getElem?_getD]
  cases e : sh[k]? with
  | none => exact ⟨by decide, by decide⟩
  | some s => exact hs.2 s (List.mem_of_getElem? e)
theorem set_iD {xs : List Int} {i : Nat} {v : Int} : (iD xs).set i (.int v) = iD (xs.set i v) := by
  unfold iD
  rw [List.map_set]
theorem rnd_drop {i : Nat} {e : Nat × Nat × Int} {s : Bool} (h : both[i]? = some e) : rndF sh M (both.drop i) pl s = rndF sh M (e :: both.drop (i + 1)) pl s := by
  obtain ⟨l1, e1⟩ := List.getElem?_eq_some_iff.mp h
  rw [List.drop_eq_getElem_cons l1, e1]
theorem l4_least_places_ok (hs : ShB us sh) (hp : pl.length = us.length) (hb : ∀ e ∈ both, e.1 < us.length ∧ e.2.1 < us.length)
    (hr : rndF sh M both pl true = none → ∀ c5 c9 c10 c11 c12 c14 c15 c16 c17 c18, E.rt .non [c0, .dat (.int M), .dat (.lst (iD sh)), c3, c4, c5, c6, c7, c8, c9, c10, c11, c12, .dat (.lst (both.map eD)), c14, c15, c16, c17, c18])
    (hn : ∀ pl' s, rndF sh M both pl true = some (pl', s) → pl'.length = us.length → ∀ c9 c10 c11 c12 c15 c16 c17 c18, E.nx [c0, .dat (.int M), .dat (.lst (iD sh)), c3, c4, .own p5 (.lst (iD pl')), c6, c7, c8, c9, c10, c11, c12, .dat (.lst (both.map eD)), .dat (.bl s), c15, c16, c17, c18]) :
    l4_least_places K Z E [c0, .dat (.int M), .dat (.lst (iD sh)), c3, c4, .own p5 (.lst (iD pl)), c6, c7, c8, c9, c10, c11, c12, .dat (.lst (both.map eD)), .dat (.bl true), c15, c16, c17, c18] := by
  unfold l4_least_places wFor
  simp only [seqD_l, wPeekR, wTor, wSor, wXor, gNotInL, wAugVC, wRetOwnG, wRetSortFr, wExtend, gMaxT, gMinT, wAppendB, gRepT1, wFrzD, dcOf, wKeys, wDGet, wDIn, wDkNew, wDtNew, wDlNew, wLate, wPopAt, wIsiT, wRepOwn, gRepL, wAugSOwn, wListRgOwn, wZipK3, gRepT, wCountB, wIndexB, wIsiOwn, wPeekL, wCallFr, wStar, wSortSet, wTryAs, wIsE, offE, wListRg1, wListRg2, wRngDown, wZipK, gInL, gNotInT, wCatOwn, gIsB, gNotB, D.adr.injEq, Cont.pool.injEq, ixN31, ne_eq, List.map_cons, List.map_nil, wPoolOpen, wPoolClose, wPop0, wPopTo, wListOwn, wRemove, wRaise0, wRaise1, wAugOwn, wEnumL, wTru, wSlA, gCatA, gLtT, gLeT, wFrz, wChain3, wAttr, wMkF, wEnumT, wRevT, wDict0, wDict1, numD3, Nat.reduceAdd, atI0, atI1, atI2, atI3, atI4, ixN51, ixN52, ixN53, List.length_map, wNever, scal, V.int.injEq, V.str.injEq, V.bl.injEq, wSq, wNext, wBreak, wCont, wDrop, wRet, wRetN, wIfS, wAsg, wPar, wLstOwn, wAppend, wSetOwn, wIxOwn, wPeek, wRetOwn, wRetFr, wFor, wB, wNot, wAnd, wOr, wAndV, wOrV, wNotV, wIf, wChain, wNil, wCons, wCB, wTup, wLst, wNoPart, wPart, wSlT, wSlL, wSeq, wRng1, wRng2, wZip, wName, wNilT, wConsT, wTupT, wYes, wNeg, wVar, wC, wOp, wcNil, wcCons, wcOwn, wCall, wCallOwn, slots, cellsOf, OwnArgs, putBack, g2I, g2IC, gLen, gAbs, gGcd, gInt1, gTupleOf, gListOf, gIx, gCatT, gCat, gEq, gNe, gIsN, gNotN, scD, seqD_t, seqD_l, seqD_f, isNonD, List.nodup_cons, List.mem_cons, List.not_mem_nil, or_false, not_false_eq_true, Nat.reduceEqDiff, L3.Keeps, ends, wipeD, List.replicate, List.cons_append, List.nil_append, List.append_nil, List.getElem?_cons_zero, List.getElem?_cons_succ, List.set_cons_zero, List.set_cons_succ, List.getD_cons_zero, List.getD_cons_succ, List.length_cons, List.length_nil, List.nodup_nil, Option.some.injEq, Cell.dat.injEq, Cell.own.injEq, Cont.lst.injEq, D.bl.injEq, D.int.injEq, D.str.injEq, D.tup.injEq, D.lst.injEq, Arg.d.injEq, List.cons.injEq, exists_and_left, exists_and_right, exists_eq_left', exists_eq_left, exists_eq_right, exists_eq_right', exists_eq, exists_eq', and_true, true_and, and_assoc, and_self, exists_const, reduceCtorEq, web_wE, web_pE, webD_inj]
  refine ⟨fun i τ => ∃ (pl' : List Int) (s : Bool) (c9 c10 c11 c12 c15 c16 c17 c18 : Cell), τ = [c0, .dat (.int M), .dat (.lst (iD sh)), c3, c4, .own p5 (.lst (iD pl')), c6, c7, c8, c9, c10, c11, c12, .dat (.lst (both.map eD)), .dat (.bl s), c15, c16, c17, c18] ∧ pl'.length = us.length ∧ rndF sh M both pl true = rndF sh M (both.drop i) pl' s, ⟨pl, true, _, _, _, _, _, _, _, _, rfl, hp, rfl⟩, ?_, ?_⟩
  · rintro i d τ2 hi ⟨pl', s, c9, c10, c11, c12, c15, c16, c17, c18, rfl, hl, hrn⟩
    rw [List.getElem?_map] at hi
    obtain ⟨⟨lo, hi', l⟩, ee, rfl⟩ := Option.map_eq_some_iff.mp hi
    obtain ⟨b1, b2⟩ := hb _ (List.mem_of_getElem? ee)
    have b1 : lo < us.length := b1
    have b2 : hi' < us.length := b2
    have e1 := at_iD (st := pl') (i := lo) (by omega)
    have e2 := at_iD (st := pl') (i := hi') (by omega)
    have e3 := at_iD (st := sh) (i := lo) (by rw [hs.1]; exact b1)
    have sb := sh_at hs lo
    rw [rnd_drop ee] at hrn
    have sa : pl'.getD hi' 0 - pl'.getD lo 0 - l = abvF pl' lo hi' l := rfl
    simp only [eD, seqD_l, e1, e2, e3, sa, wPeekR, wTor, wSor, wXor, gNotInL, wAugVC, wRetOwnG, wRetSortFr, wExtend, gMaxT, gMinT, wAppendB, gRepT1, wFrzD, dcOf, wKeys, wDGet, wDIn, wDkNew, wDtNew, wDlNew, wLate, wPopAt, wIsiT, wRepOwn, gRepL, wAugSOwn, wListRgOwn, wZipK3, gRepT, wCountB, wIndexB, wIsiOwn, wPeekL, wCallFr, wStar, wSortSet, wTryAs, wIsE, offE, wListRg1, wListRg2, wRngDown, wZipK, gInL, gNotInT, wCatOwn, gIsB, gNotB, D.adr.injEq, Cont.pool.injEq, ixN31, ne_eq, List.map_cons, List.map_nil, wPoolOpen, wPoolClose, wPop0, wPopTo, wListOwn, wRemove, wRaise0, wRaise1, wAugOwn, wEnumL, wTru, wSlA, gCatA, gLtT, gLeT, wFrz, wChain3, wAttr, wMkF, wEnumT, wRevT, wDict0, wDict1, numD3, Nat.reduceAdd, atI0, atI1, atI2, atI3, atI4, ixN51, ixN52, ixN53, List.length_map, wNever, scal, V.int.injEq, V.str.injEq, V.bl.injEq, wSq, wNext, wBreak, wCont, wDrop, wRet, wRetN, wIfS, wAsg, wPar, wLstOwn, wAppend, wSetOwn, wIxOwn, wPeek, wRetOwn, wRetFr, wFor, wB, wNot, wAnd, wOr, wAndV, wOrV, wNotV, wIf, wChain, wNil, wCons, wCB, wTup, wLst, wNoPart, wPart, wSlT, wSlL, wSeq, wRng1, wRng2, wZip, wName, wNilT, wConsT, wTupT, wYes, wNeg, wVar, wC, wOp, wcNil, wcCons, wcOwn, wCall, wCallOwn, slots, cellsOf, OwnArgs, putBack, g2I, g2IC, gLen, gAbs, gGcd, gInt1, gTupleOf, gListOf, gIx, gCatT, gCat, gEq, gNe, gIsN, gNotN, scD, seqD_t, seqD_l, seqD_f, isNonD, List.nodup_cons, List.mem_cons, List.not_mem_nil, or_false, not_false_eq_true, Nat.reduceEqDiff, L3.Keeps, ends, wipeD, List.replicate, List.cons_append, List.nil_append, List.append_nil, List.getElem?_cons_zero, List.getElem?_cons_succ, List.set_cons_zero, List.set_cons_succ, List.getD_cons_zero, List.getD_cons_succ, List.length_cons, List.length_nil, List.nodup_nil, Option.some.injEq, Cell.dat.injEq, Cell.own.injEq, Cont.lst.injEq, D.bl.injEq, D.int.injEq, D.str.injEq, D.tup.injEq, D.lst.injEq, Arg.d.injEq, List.cons.injEq, exists_and_left, exists_and_right, exists_eq_left', exists_eq_left, exists_eq_right, exists_eq_right', exists_eq, exists_eq', and_true, true_and, and_assoc, and_self, exists_const, reduceCtorEq, web_wE, web_pE, webD_inj]
    refine ⟨fun z => ⟨fun y => ?_, fun y => ?_⟩, fun z => ?_⟩
    · have z := of_decide_eq_true z
      exact hr (by rw [hrn, rnd_2 z (of_decide_eq_true y)]) _ _ _ _ _ _ _ _ _ _
    · have z := of_decide_eq_true z
      have y := of_decide_eq_false y
      have g1 : (iD pl')[((lo : Nat) : Int).toNat]? = some (.int (pl'.getD lo 0)) := by
        rw [Int.toNat_natCast]
        unfold iD
        rw [List.getElem?_map, List.getD_eq_getElem?_getD, List.getElem?_eq_getElem (by omega)]
        rfl
      refine ⟨cmul_l (by decide) (by decide), by omega, _, g1, wide_div (b := 40) (by omega) (by omega) (by decide) (by decide), cmul_r (by omega) (by omega), ?_⟩
      have nw : pl'.getD lo 0 + (abvF pl' lo hi' l + 2 * sh.getD lo 0 - 1) / (2 * sh.getD lo 0) * (2 * sh.getD lo 0) = newF sh pl' lo hi' l := rfl
      rw [Int.toNat_natCast, nw, set_iD]
      have e4 : atI (iD (pl'.set lo (newF sh pl' lo hi' l))) ((lo : Nat) : Int) = some (.int (newF sh pl' lo hi' l)) := by
        rw [at_iD (by rw [List.length_set]; omega), List.getD_eq_getElem?_getD, List.getElem?_set_self (by omega)]
        rfl
      refine ⟨_, e4, _, rfl, fun x => ?_, fun x => ?_⟩
      · exact hr (by rw [hrn, rnd_3 z y (of_decide_eq_true x)]) _ _ _ _ _ _ _ _ _ _
      · refine ⟨pl'.set lo (newF sh pl' lo hi' l), rfl, by rw [List.length_set, hl], ?_⟩
        rw [hrn, rnd_4 z y (of_decide_eq_false x)]
    · have z := of_decide_eq_false z
      exact ⟨pl', rfl, hl, by rw [hrn, rnd_1 z]⟩
  · rintro τ2 ⟨pl', s, c9, c10, c11, c12, c15, c16, c17, c18, rfl, hl, hrn⟩
    rw [List.drop_length] at hrn
    exact hn pl' s hrn hl _ _ _ _ _ _ _ _
theorem l5_least_places_ok {r : Option (List Int)} (hs : ShB us sh) (hp : pl.length = us.length) (hb : ∀ e ∈ both, e.1 < us.length ∧ e.2.1 < us.length) (hl : lpF sh M both 60 pl = some r)
    (hr : r = none → ∀ c5 c9 c10 c11 c12 c14 c15 c16 c17 c18, E.rt .non [c0, .dat (.int M), .dat (.lst (iD sh)), c3, c4, c5, c6, c7, c8, c9, c10, c11, c12, .dat (.lst (both.map eD)), c14, c15, c16, c17, c18])
    (hn : ∀ pl', r = some pl' → ∀ c9 c10 c11 c12 c14 c15 c16 c17 c18, E.nx [c0, .dat (.int M), .dat (.lst (iD sh)), c3, c4, .own p5 (.lst (iD pl')), c6, c7, c8, c9, c10, c11, c12, .dat (.lst (both.map eD)), c14, c15, c16, c17, c18]) :
    l5_least_places K Z E [c0, .dat (.int M), .dat (.lst (iD sh)), c3, c4, .own p5 (.lst (iD pl)), c6, c7, c8, c9, c10, c11, c12, .dat (.lst (both.map eD)), .dat (.bl false), c15, c16, c17, c18] := by
  unfold l5_least_places wWhile
  refine ⟨fun n τ => ∃ (pl' : List Int) (s : Bool) (c9 c10 c11 c12 c15 c16 c17 c18 : Cell), τ = [c0, .dat (.int M), .dat (.lst (iD sh)), c3, c4, .own p5 (.lst (iD pl')), c6, c7, c8, c9, c10, c11, c12, .dat (.lst (both.map eD)), .dat (.bl s), c15, c16, c17, c18] ∧ pl'.length = us.length ∧ (s = true → r = some pl') ∧ (s = false → lpF sh M both n pl' = some r), ⟨60, pl, false, _, _, _, _, _, _, _, _, rfl, hp, fun h => (nomatch h), fun _ => hl⟩, ?_⟩
  rintro n τ ⟨pl', s, c9, c10, c11, c12, c15, c16, c17, c18, rfl, hp', h1, h2⟩
  simp only [wPeekR, wTor, wSor, wXor, gNotInL, wAugVC, wRetOwnG, wRetSortFr, wExtend, gMaxT, gMinT, wAppendB, gRepT1, wFrzD, dcOf, wKeys, wDGet, wDIn, wDkNew, wDtNew, wDlNew, wLate, wPopAt, wIsiT, wRepOwn, gRepL, wAugSOwn, wListRgOwn, wZipK3, gRepT, wCountB, wIndexB, wIsiOwn, wPeekL, wCallFr, wStar, wSortSet, wTryAs, wIsE, offE, wListRg1, wListRg2, wRngDown, wZipK, gInL, gNotInT, wCatOwn, gIsB, gNotB, D.adr.injEq, Cont.pool.injEq, ixN31, ne_eq, List.map_cons, List.map_nil, wPoolOpen, wPoolClose, wPop0, wPopTo, wListOwn, wRemove, wRaise0, wRaise1, wAugOwn, wEnumL, wTru, wSlA, gCatA, gLtT, gLeT, wFrz, wChain3, wAttr, wMkF, wEnumT, wRevT, wDict0, wDict1, numD3, Nat.reduceAdd, atI0, atI1, atI2, atI3, atI4, ixN51, ixN52, ixN53, List.length_map, wNever, scal, V.int.injEq, V.str.injEq, V.bl.injEq, wSq, wNext, wBreak, wCont, wDrop, wRet, wRetN, wIfS, wAsg, wPar, wLstOwn, wAppend, wSetOwn, wIxOwn, wPeek, wRetOwn, wRetFr, wFor, wB, wNot, wAnd, wOr, wAndV, wOrV, wNotV, wIf, wChain, wNil, wCons, wCB, wTup, wLst, wNoPart, wPart, wSlT, wSlL, wSeq, wRng1, wRng2, wZip, wName, wNilT, wConsT, wTupT, wYes, wNeg, wVar, wC, wOp, wcNil, wcCons, wcOwn, wCall, wCallOwn, slots, cellsOf, OwnArgs, putBack, g2I, g2IC, gLen, gAbs, gGcd, gInt1, gTupleOf, gListOf, gIx, gCatT, gCat, gEq, gNe, gIsN, gNotN, scD, seqD_t, seqD_l, seqD_f, isNonD, List.nodup_cons, List.mem_cons, List.not_mem_nil, or_false, not_false_eq_true, Nat.reduceEqDiff, L3.Keeps, ends, wipeD, List.replicate, List.cons_append, List.nil_append, List.append_nil, List.getElem?_cons_zero, List.getElem?_cons_succ, List.set_cons_zero, List.set_cons_succ, List.getD_cons_zero, List.getD_cons_succ, List.length_cons, List.length_nil, List.nodup_nil, Option.some.injEq, Cell.dat.injEq, Cell.own.injEq, Cont.lst.injEq, D.bl.injEq, D.int.injEq, D.str.injEq, D.tup.injEq, D.lst.injEq, Arg.d.injEq, List.cons.injEq, exists_and_left, exists_and_right, exists_eq_left', exists_eq_left, exists_eq_right, exists_eq_right', exists_eq, exists_eq', and_true, true_and, and_assoc, and_self, exists_const, reduceCtorEq, web_wE, web_pE, webD_inj]
  cases s with
  | true =>
    simp
    exact hn pl' (h1 rfl) _ _ _ _ _ _ _ _ _
  | false =>
    have h2 := h2 rfl
    cases n with
    | zero => exact absurd h2 (by unfold lpF; simp)
    | succ n =>
      unfold lpF at h2
      simp
      refine l4_least_places_ok hs hp' hb (fun z => ?_) fun pl2 s z hp2 => ?_
      · rw [z] at h2
        exact hr (Option.some.inj h2).symm
      · rw [z] at h2
        intro c9 c10 c11 c12 c15 c16 c17 c18
        cases s with
        | true => exact ⟨n, by omega, pl2, .inr ⟨⟨_, _, _, _, _, _, _, _, rfl⟩, hp2, (Option.some.inj h2).symm⟩⟩
        | false => exact ⟨n, by omega, pl2, .inl ⟨⟨_, _, _, _, _, _, _, _, rfl⟩, hp2, h2⟩⟩
theorem zip_iD : ∀ (xs ys : List Int), zipD (iD xs) (iD ys) = List.zipWith (fun a b => D.tup [.int a, .int b]) xs ys
  | [], _ => by simp [zipD, iD]
  | _ :: _, [] => by simp [zipD, iD]
  | x :: xs, y :: ys => by
    have := zip_iD xs ys
    unfold zipD iD at this ⊢
    simp only [List.map_cons, List.zipWith_cons_cons, this]
theorem c1_least_places_ok {c8 : Cell} (hl : nets.length = us.length) (hs : ShB us sh) (h12 : us.length ≤ 12)
    (hn : ∀ p5, E.nx [c0, c1, .dat (.lst (iD sh)), .dat (.tup (iD nets)), c4, .own p5 (.lst (iD (stP sh nets))), .any, .any, c8, c9, c10, c11, c12, c13, c14, c15, c16, c17, c18]) :
    c1_least_places K Z E [c0, c1, .dat (.lst (iD sh)), .dat (.tup (iD nets)), c4, c5, c6, c7, c8, c9, c10, c11, c12, c13, c14, c15, c16, c17, c18] := by
  unfold c1_least_places wLcOwn
  simp only [seqD_l, seqD_t, wPeekR, wTor, wSor, wXor, gNotInL, wAugVC, wRetOwnG, wRetSortFr, wExtend, gMaxT, gMinT, wAppendB, gRepT1, wFrzD, dcOf, wKeys, wDGet, wDIn, wDkNew, wDtNew, wDlNew, wLate, wPopAt, wIsiT, wRepOwn, gRepL, wAugSOwn, wListRgOwn, wZipK3, gRepT, wCountB, wIndexB, wIsiOwn, wPeekL, wCallFr, wStar, wSortSet, wTryAs, wIsE, offE, wListRg1, wListRg2, wRngDown, wZipK, gInL, gNotInT, wCatOwn, gIsB, gNotB, D.adr.injEq, Cont.pool.injEq, ixN31, ne_eq, List.map_cons, List.map_nil, wPoolOpen, wPoolClose, wPop0, wPopTo, wListOwn, wRemove, wRaise0, wRaise1, wAugOwn, wEnumL, wTru, wSlA, gCatA, gLtT, gLeT, wFrz, wChain3, wAttr, wMkF, wEnumT, wRevT, wDict0, wDict1, numD3, Nat.reduceAdd, atI0, atI1, atI2, atI3, atI4, ixN51, ixN52, ixN53, List.length_map, wNever, scal, V.int.injEq, V.str.injEq, V.bl.injEq, wSq, wNext, wBreak, wCont, wDrop, wRet, wRetN, wIfS, wAsg, wPar, wLstOwn, wAppend, wSetOwn, wIxOwn, wPeek, wRetOwn, wRetFr, wFor, wB, wNot, wAnd, wOr, wAndV, wOrV, wNotV, wIf, wChain, wNil, wCons, wCB, wTup, wLst, wNoPart, wPart, wSlT, wSlL, wSeq, wRng1, wRng2, wZip, wName, wNilT, wConsT, wTupT, wYes, wNeg, wVar, wC, wOp, wcNil, wcCons, wcOwn, wCall, wCallOwn, slots, cellsOf, OwnArgs, putBack, g2I, g2IC, gLen, gAbs, gGcd, gInt1, gTupleOf, gListOf, gIx, gCatT, gCat, gEq, gNe, gIsN, gNotN, scD, seqD_t, seqD_l, seqD_f, isNonD, List.nodup_cons, List.mem_cons, List.not_mem_nil, or_false, not_false_eq_true, Nat.reduceEqDiff, L3.Keeps, ends, wipeD, List.replicate, List.cons_append, List.nil_append, List.append_nil, List.getElem?_cons_zero, List.getElem?_cons_succ, List.set_cons_zero, List.set_cons_succ, List.getD_cons_zero, List.getD_cons_succ, List.length_cons, List.length_nil, List.nodup_nil, Option.some.injEq, Cell.dat.injEq, Cell.own.injEq, Cont.lst.injEq, D.bl.injEq, D.int.injEq, D.str.injEq, D.tup.injEq, D.lst.injEq, Arg.d.injEq, List.cons.injEq, exists_and_left, exists_and_right, exists_eq_left', exists_eq_left, exists_eq_right, exists_eq_right', exists_eq, exists_eq', and_true, true_and, and_assoc, and_self, exists_const, reduceCtorEq, web_wE, web_pE, webD_inj]
  have hz : (zipD (iD sh) (iD nets)).length = us.length := by unfold zipD; rw [List.length_zipWith, iD_len, iD_len, hs.1, hl, Nat.min_self]
  have ln : (stP sh nets).length = us.length := by unfold stP; rw [List.length_zipWith, hs.1, hl, Nat.min_self]
  refine ⟨by omega, fun i acc τ => τ = [c0, c1, .dat (.lst (iD sh)), .dat (.tup (iD nets)), c4, c5, .any, .any, c8, c9, c10, c11, c12, c13, c14, c15, c16, c17, c18] ∧ acc = iD ((stP sh nets).take i), ⟨rfl, rfl⟩, ?_, ?_⟩
  · rintro i d acc τ2 hi ⟨rfl, rfl⟩ -
    have hlt := (List.getElem?_eq_some_iff.mp hi).1
    rw [hz] at hlt
    obtain ⟨x, y, hx, hy, hxy⟩ := zip_get (xs := iD sh) (ys := iD nets) (i := i) (by omega)
    rw [hxy] at hi
    cases hi
    obtain ⟨a, ea, rfl⟩ := iD_at hx
    obtain ⟨b, eb, rfl⟩ := iD_at hy
    have sb := hs.2 a (List.mem_of_getElem? ea)
    have e1 : (stP sh nets)[i]? = some (a * (b % 2)) := by unfold stP; rw [List.getElem?_zipWith, ea, eb]
    simp only [wPeekR, wTor, wSor, wXor, gNotInL, wAugVC, wRetOwnG, wRetSortFr, wExtend, gMaxT, gMinT, wAppendB, gRepT1, wFrzD, dcOf, wKeys, wDGet, wDIn, wDkNew, wDtNew, wDlNew, wLate, wPopAt, wIsiT, wRepOwn, gRepL, wAugSOwn, wListRgOwn, wZipK3, gRepT, wCountB, wIndexB, wIsiOwn, wPeekL, wCallFr, wStar, wSortSet, wTryAs, wIsE, offE, wListRg1, wListRg2, wRngDown, wZipK, gInL, gNotInT, wCatOwn, gIsB, gNotB, D.adr.injEq, Cont.pool.injEq, ixN31, ne_eq, List.map_cons, List.map_nil, wPoolOpen, wPoolClose, wPop0, wPopTo, wListOwn, wRemove, wRaise0, wRaise1, wAugOwn, wEnumL, wTru, wSlA, gCatA, gLtT, gLeT, wFrz, wChain3, wAttr, wMkF, wEnumT, wRevT, wDict0, wDict1, numD3, Nat.reduceAdd, atI0, atI1, atI2, atI3, atI4, ixN51, ixN52, ixN53, List.length_map, wNever, scal, V.int.injEq, V.str.injEq, V.bl.injEq, wSq, wNext, wBreak, wCont, wDrop, wRet, wRetN, wIfS, wAsg, wPar, wLstOwn, wAppend, wSetOwn, wIxOwn, wPeek, wRetOwn, wRetFr, wFor, wB, wNot, wAnd, wOr, wAndV, wOrV, wNotV, wIf, wChain, wNil, wCons, wCB, wTup, wLst, wNoPart, wPart, wSlT, wSlL, wSeq, wRng1, wRng2, wZip, wName, wNilT, wConsT, wTupT, wYes, wNeg, wVar, wC, wOp, wcNil, wcCons, wcOwn, wCall, wCallOwn, slots, cellsOf, OwnArgs, putBack, g2I, g2IC, gLen, gAbs, gGcd, gInt1, gTupleOf, gListOf, gIx, gCatT, gCat, gEq, gNe, gIsN, gNotN, scD, seqD_t, seqD_l, seqD_f, isNonD, List.nodup_cons, List.mem_cons, List.not_mem_nil, or_false, not_false_eq_true, Nat.reduceEqDiff, L3.Keeps, ends, wipeD, List.replicate, List.cons_append, List.nil_append, List.append_nil, List.getElem?_cons_zero, List.getElem?_cons_succ, List.set_cons_zero, List.set_cons_succ, List.getD_cons_zero, List.getD_cons_succ, List.length_cons, List.length_nil, List.nodup_nil, Option.some.injEq, Cell.dat.injEq, Cell.own.injEq, Cont.lst.injEq, D.bl.injEq, D.int.injEq, D.str.injEq, D.tup.injEq, D.lst.injEq, Arg.d.injEq, List.cons.injEq, exists_and_left, exists_and_right, exists_eq_left', exists_eq_left, exists_eq_right, exists_eq_right', exists_eq, exists_eq', and_true, true_and, and_assoc, and_self, exists_const, reduceCtorEq, web_wE, web_pE, webD_inj]
    refine ⟨fun _ => ⟨by decide, cmul_l (by omega) (by omega), ?_⟩, fun z => z.elim⟩
    rw [take_sn e1]
    unfold iD
    rw [List.map_append]
    rfl
  · rintro acc τ2 ⟨h1, h2⟩ - p5
    rw [hz, ← ln, List.take_length] at h2
    rw [h1, h2]
    exact hn p5
theorem c2_least_places_ok {q : D → List Cell → Prop} {e : Xn → List Cell → Prop} (hw : WebK us ps) (hl : ap.length = ps.length)
    (hq : q (.lst ((endT (ps.map (unP m)) ap).map eD)) [.dat (webD Z.C_Web (.tup (iD us)) (.tup (ps.map ptD))), c1, c2, c3, .dat (.lst (iD ap)), c5, c6, c7, c8, .any, .any, .any, .any, c13, c14, c15, c16, c17, c18]) :
    c2_least_places K Z [.dat (webD Z.C_Web (.tup (iD us)) (.tup (ps.map ptD))), c1, c2, c3, .dat (.lst (iD ap)), c5, c6, c7, c8, c9, c10, c11, c12, c13, c14, c15, c16, c17, c18] q e := by
  unfold c2_least_places wLc
  simp only [seqD_l, seqD_t, wPeekR, wTor, wSor, wXor, gNotInL, wAugVC, wRetOwnG, wRetSortFr, wExtend, gMaxT, gMinT, wAppendB, gRepT1, wFrzD, dcOf, wKeys, wDGet, wDIn, wDkNew, wDtNew, wDlNew, wLate, wPopAt, wIsiT, wRepOwn, gRepL, wAugSOwn, wListRgOwn, wZipK3, gRepT, wCountB, wIndexB, wIsiOwn, wPeekL, wCallFr, wStar, wSortSet, wTryAs, wIsE, offE, wListRg1, wListRg2, wRngDown, wZipK, gInL, gNotInT, wCatOwn, gIsB, gNotB, D.adr.injEq, Cont.pool.injEq, ixN31, ne_eq, List.map_cons, List.map_nil, wPoolOpen, wPoolClose, wPop0, wPopTo, wListOwn, wRemove, wRaise0, wRaise1, wAugOwn, wEnumL, wTru, wSlA, gCatA, gLtT, gLeT, wFrz, wChain3, wAttr, wMkF, wEnumT, wRevT, wDict0, wDict1, numD3, Nat.reduceAdd, atI0, atI1, atI2, atI3, atI4, ixN51, ixN52, ixN53, List.length_map, wNever, scal, V.int.injEq, V.str.injEq, V.bl.injEq, wSq, wNext, wBreak, wCont, wDrop, wRet, wRetN, wIfS, wAsg, wPar, wLstOwn, wAppend, wSetOwn, wIxOwn, wPeek, wRetOwn, wRetFr, wFor, wB, wNot, wAnd, wOr, wAndV, wOrV, wNotV, wIf, wChain, wNil, wCons, wCB, wTup, wLst, wNoPart, wPart, wSlT, wSlL, wSeq, wRng1, wRng2, wZip, wName, wNilT, wConsT, wTupT, wYes, wNeg, wVar, wC, wOp, wcNil, wcCons, wcOwn, wCall, wCallOwn, slots, cellsOf, OwnArgs, putBack, g2I, g2IC, gLen, gAbs, gGcd, gInt1, gTupleOf, gListOf, gIx, gCatT, gCat, gEq, gNe, gIsN, gNotN, scD, seqD_t, seqD_l, seqD_f, isNonD, List.nodup_cons, List.mem_cons, List.not_mem_nil, or_false, not_false_eq_true, Nat.reduceEqDiff, L3.Keeps, ends, wipeD, List.replicate, List.cons_append, List.nil_append, List.append_nil, List.getElem?_cons_zero, List.getElem?_cons_succ, List.set_cons_zero, List.set_cons_succ, List.getD_cons_zero, List.getD_cons_succ, List.length_cons, List.length_nil, List.nodup_nil, Option.some.injEq, Cell.dat.injEq, Cell.own.injEq, Cont.lst.injEq, D.bl.injEq, D.int.injEq, D.str.injEq, D.tup.injEq, D.lst.injEq, Arg.d.injEq, List.cons.injEq, exists_and_left, exists_and_right, exists_eq_left', exists_eq_left, exists_eq_right, exists_eq_right', exists_eq, exists_eq', and_true, true_and, and_assoc, and_self, exists_const, reduceCtorEq, web_wE, web_pE, webD_inj]
  have h36 := hw.w.2.1
  rw [List.length_map] at h36
  have hz : (zipD (ps.map ptD) (iD ap)).length = ps.length := by unfold zipD; rw [List.length_zipWith, List.length_map, iD_len, hl, Nat.min_self]
  have ln : (endT (ps.map (unP m)) ap).length = ps.length := by unfold endT; rw [List.length_zipWith, List.length_map, hl, Nat.min_self]
  refine ⟨by omega, fun i acc τ => τ = [.dat (webD Z.C_Web (.tup (iD us)) (.tup (ps.map ptD))), c1, c2, c3, .dat (.lst (iD ap)), c5, c6, c7, c8, .any, .any, .any, .any, c13, c14, c15, c16, c17, c18] ∧ acc = ((endT (ps.map (unP m)) ap).take i).map eD, ⟨rfl, rfl⟩, ?_, ?_⟩
  · rintro i d acc τ2 hi ⟨rfl, rfl⟩ -
    have hlt := (List.getElem?_eq_some_iff.mp hi).1
    rw [hz] at hlt
    obtain ⟨x, y, hx, hy, hxy⟩ := zip_get (xs := ps.map ptD) (ys := iD ap) (i := i) (by omega)
    rw [hxy] at hi
    cases hi
    rw [List.getElem?_map] at hx
    obtain ⟨pp, ep, rfl⟩ := Option.map_eq_some_iff.mp hx
    obtain ⟨b, eb, rfl⟩ := iD_at hy
    have e1 : (endT (ps.map (unP m)) ap)[i]? = some (pp.1, pp.2.1, b) := by unfold endT; rw [List.getElem?_zipWith, List.getElem?_map, ep, eb]; rfl
    simp only [ptD, wPeekR, wTor, wSor, wXor, gNotInL, wAugVC, wRetOwnG, wRetSortFr, wExtend, gMaxT, gMinT, wAppendB, gRepT1, wFrzD, dcOf, wKeys, wDGet, wDIn, wDkNew, wDtNew, wDlNew, wLate, wPopAt, wIsiT, wRepOwn, gRepL, wAugSOwn, wListRgOwn, wZipK3, gRepT, wCountB, wIndexB, wIsiOwn, wPeekL, wCallFr, wStar, wSortSet, wTryAs, wIsE, offE, wListRg1, wListRg2, wRngDown, wZipK, gInL, gNotInT, wCatOwn, gIsB, gNotB, D.adr.injEq, Cont.pool.injEq, ixN31, ne_eq, List.map_cons, List.map_nil, wPoolOpen, wPoolClose, wPop0, wPopTo, wListOwn, wRemove, wRaise0, wRaise1, wAugOwn, wEnumL, wTru, wSlA, gCatA, gLtT, gLeT, wFrz, wChain3, wAttr, wMkF, wEnumT, wRevT, wDict0, wDict1, numD3, Nat.reduceAdd, atI0, atI1, atI2, atI3, atI4, ixN51, ixN52, ixN53, List.length_map, wNever, scal, V.int.injEq, V.str.injEq, V.bl.injEq, wSq, wNext, wBreak, wCont, wDrop, wRet, wRetN, wIfS, wAsg, wPar, wLstOwn, wAppend, wSetOwn, wIxOwn, wPeek, wRetOwn, wRetFr, wFor, wB, wNot, wAnd, wOr, wAndV, wOrV, wNotV, wIf, wChain, wNil, wCons, wCB, wTup, wLst, wNoPart, wPart, wSlT, wSlL, wSeq, wRng1, wRng2, wZip, wName, wNilT, wConsT, wTupT, wYes, wNeg, wVar, wC, wOp, wcNil, wcCons, wcOwn, wCall, wCallOwn, slots, cellsOf, OwnArgs, putBack, g2I, g2IC, gLen, gAbs, gGcd, gInt1, gTupleOf, gListOf, gIx, gCatT, gCat, gEq, gNe, gIsN, gNotN, scD, seqD_t, seqD_l, seqD_f, isNonD, List.nodup_cons, List.mem_cons, List.not_mem_nil, or_false, not_false_eq_true, Nat.reduceEqDiff, L3.Keeps, ends, wipeD, List.replicate, List.cons_append, List.nil_append, List.append_nil, List.getElem?_cons_zero, List.getElem?_cons_succ, List.set_cons_zero, List.set_cons_succ, List.getD_cons_zero, List.getD_cons_succ, List.length_cons, List.length_nil, List.nodup_nil, Option.some.injEq, Cell.dat.injEq, Cell.own.injEq, Cont.lst.injEq, D.bl.injEq, D.int.injEq, D.str.injEq, D.tup.injEq, D.lst.injEq, Arg.d.injEq, List.cons.injEq, exists_and_left, exists_and_right, exists_eq_left', exists_eq_left, exists_eq_right, exists_eq_right', exists_eq, exists_eq', and_true, true_and, and_assoc, and_self, exists_const, reduceCtorEq, web_wE, web_pE, webD_inj]
    refine ⟨fun _ => ⟨by decide, ?_⟩, fun z => z.elim⟩
    rw [take_sn e1, List.map_append]
    rfl
  · rintro acc τ2 ⟨h1, h2⟩ -
    rw [hz, ← ln, List.take_length] at h2
    rw [h1, h2]
    exact hq
theorem c3_least_places_ok {es : List (Nat × Nat × Int)} {q : D → List Cell → Prop} {e : Xn → List Cell → Prop} (hl : es.length ≤ 100)
    (hq : q (.lst ((es.map fun p => ((p.2.1, p.1, p.2.2) : Nat × Nat × Int)).map eD)) [c0, c1, c2, c3, c4, c5, c6, c7, .dat (.lst (es.map eD)), .any, .any, c11, .any, c13, c14, c15, c16, c17, c18]) :
    c3_least_places K Z [c0, c1, c2, c3, c4, c5, c6, c7, .dat (.lst (es.map eD)), c9, c10, c11, c12, c13, c14, c15, c16, c17, c18] q e := by
  unfold c3_least_places wLc
  simp only [seqD_l, seqD_t, wPeekR, wTor, wSor, wXor, gNotInL, wAugVC, wRetOwnG, wRetSortFr, wExtend, gMaxT, gMinT, wAppendB, gRepT1, wFrzD, dcOf, wKeys, wDGet, wDIn, wDkNew, wDtNew, wDlNew, wLate, wPopAt, wIsiT, wRepOwn, gRepL, wAugSOwn, wListRgOwn, wZipK3, gRepT, wCountB, wIndexB, wIsiOwn, wPeekL, wCallFr, wStar, wSortSet, wTryAs, wIsE, offE, wListRg1, wListRg2, wRngDown, wZipK, gInL, gNotInT, wCatOwn, gIsB, gNotB, D.adr.injEq, Cont.pool.injEq, ixN31, ne_eq, List.map_cons, List.map_nil, wPoolOpen, wPoolClose, wPop0, wPopTo, wListOwn, wRemove, wRaise0, wRaise1, wAugOwn, wEnumL, wTru, wSlA, gCatA, gLtT, gLeT, wFrz, wChain3, wAttr, wMkF, wEnumT, wRevT, wDict0, wDict1, numD3, Nat.reduceAdd, atI0, atI1, atI2, atI3, atI4, ixN51, ixN52, ixN53, List.length_map, wNever, scal, V.int.injEq, V.str.injEq, V.bl.injEq, wSq, wNext, wBreak, wCont, wDrop, wRet, wRetN, wIfS, wAsg, wPar, wLstOwn, wAppend, wSetOwn, wIxOwn, wPeek, wRetOwn, wRetFr, wFor, wB, wNot, wAnd, wOr, wAndV, wOrV, wNotV, wIf, wChain, wNil, wCons, wCB, wTup, wLst, wNoPart, wPart, wSlT, wSlL, wSeq, wRng1, wRng2, wZip, wName, wNilT, wConsT, wTupT, wYes, wNeg, wVar, wC, wOp, wcNil, wcCons, wcOwn, wCall, wCallOwn, slots, cellsOf, OwnArgs, putBack, g2I, g2IC, gLen, gAbs, gGcd, gInt1, gTupleOf, gListOf, gIx, gCatT, gCat, gEq, gNe, gIsN, gNotN, scD, seqD_t, seqD_l, seqD_f, isNonD, List.nodup_cons, List.mem_cons, List.not_mem_nil, or_false, not_false_eq_true, Nat.reduceEqDiff, L3.Keeps, ends, wipeD, List.replicate, List.cons_append, List.nil_append, List.append_nil, List.getElem?_cons_zero, List.getElem?_cons_succ, List.set_cons_zero, List.set_cons_succ, List.getD_cons_zero, List.getD_cons_succ, List.length_cons, List.length_nil, List.nodup_nil, Option.some.injEq, Cell.dat.injEq, Cell.own.injEq, Cont.lst.injEq, D.bl.injEq, D.int.injEq, D.str.injEq, D.tup.injEq, D.lst.injEq, Arg.d.injEq, List.cons.injEq, exists_and_left, exists_and_right, exists_eq_left', exists_eq_left, exists_eq_right, exists_eq_right', exists_eq, exists_eq', and_true, true_and, and_assoc, and_self, exists_const, reduceCtorEq, web_wE, web_pE, webD_inj]
  refine ⟨by omega, fun i acc τ => τ = [c0, c1, c2, c3, c4, c5, c6, c7, .dat (.lst (es.map eD)), .any, .any, c11, .any, c13, c14, c15, c16, c17, c18] ∧ acc = ((es.take i).map fun p => ((p.2.1, p.1, p.2.2) : Nat × Nat × Int)).map eD, ⟨rfl, rfl⟩, ?_, ?_⟩
  · rintro i d acc τ2 hi ⟨rfl, rfl⟩ -
    rw [List.getElem?_map] at hi
    obtain ⟨x, ex, rfl⟩ := Option.map_eq_some_iff.mp hi
    simp only [eD, wPeekR, wTor, wSor, wXor, gNotInL, wAugVC, wRetOwnG, wRetSortFr, wExtend, gMaxT, gMinT, wAppendB, gRepT1, wFrzD, dcOf, wKeys, wDGet, wDIn, wDkNew, wDtNew, wDlNew, wLate, wPopAt, wIsiT, wRepOwn, gRepL, wAugSOwn, wListRgOwn, wZipK3, gRepT, wCountB, wIndexB, wIsiOwn, wPeekL, wCallFr, wStar, wSortSet, wTryAs, wIsE, offE, wListRg1, wListRg2, wRngDown, wZipK, gInL, gNotInT, wCatOwn, gIsB, gNotB, D.adr.injEq, Cont.pool.injEq, ixN31, ne_eq, List.map_cons, List.map_nil, wPoolOpen, wPoolClose, wPop0, wPopTo, wListOwn, wRemove, wRaise0, wRaise1, wAugOwn, wEnumL, wTru, wSlA, gCatA, gLtT, gLeT, wFrz, wChain3, wAttr, wMkF, wEnumT, wRevT, wDict0, wDict1, numD3, Nat.reduceAdd, atI0, atI1, atI2, atI3, atI4, ixN51, ixN52, ixN53, List.length_map, wNever, scal, V.int.injEq, V.str.injEq, V.bl.injEq, wSq, wNext, wBreak, wCont, wDrop, wRet, wRetN, wIfS, wAsg, wPar, wLstOwn, wAppend, wSetOwn, wIxOwn, wPeek, wRetOwn, wRetFr, wFor, wB, wNot, wAnd, wOr, wAndV, wOrV, wNotV, wIf, wChain, wNil, wCons, wCB, wTup, wLst, wNoPart, wPart, wSlT, wSlL, wSeq, wRng1, wRng2, wZip, wName, wNilT, wConsT, wTupT, wYes, wNeg, wVar, wC, wOp, wcNil, wcCons, wcOwn, wCall, wCallOwn, slots, cellsOf, OwnArgs, putBack, g2I, g2IC, gLen, gAbs, gGcd, gInt1, gTupleOf, gListOf, gIx, gCatT, gCat, gEq, gNe, gIsN, gNotN, scD, seqD_t, seqD_l, seqD_f, isNonD, List.nodup_cons, List.mem_cons, List.not_mem_nil, or_false, not_false_eq_true, Nat.reduceEqDiff, L3.Keeps, ends, wipeD, List.replicate, List.cons_append, List.nil_append, List.append_nil, List.getElem?_cons_zero, List.getElem?_cons_succ, List.set_cons_zero, List.set_cons_succ, List.getD_cons_zero, List.getD_cons_succ, List.length_cons, List.length_nil, List.nodup_nil, Option.some.injEq, Cell.dat.injEq, Cell.own.injEq, Cont.lst.injEq, D.bl.injEq, D.int.injEq, D.str.injEq, D.tup.injEq, D.lst.injEq, Arg.d.injEq, List.cons.injEq, exists_and_left, exists_and_right, exists_eq_left', exists_eq_left, exists_eq_right, exists_eq_right', exists_eq, exists_eq', and_true, true_and, and_assoc, and_self, exists_const, reduceCtorEq, web_wE, web_pE, webD_inj]
    refine ⟨fun _ => ⟨by decide, ?_⟩, fun z => z.elim⟩
    rw [take_sn ex, List.map_append, List.map_append]
    rfl
  · rintro acc τ2 ⟨h1, h2⟩ -
    rw [List.take_length] at h2
    rw [h1, h2]
    exact hq
end
theorem both_in {us : List Int} {ps : List Pt} {m : Int} {ap : List Int} (hw : WebK us ps) : ∀ e ∈ bothT (ps.map (unP m)) ap, e.1 < us.length ∧ e.2.1 < us.length := by
  have h1 : ∀ e ∈ endT (ps.map (unP m)) ap, e.1 < us.length ∧ e.2.1 < us.length := fun e he => by
    obtain ⟨i, hi⟩ := List.getElem?_of_mem he
    unfold endT at hi
    rw [List.getElem?_zipWith] at hi
    cases e1 : (ps.map (unP m))[i]? with
    | none => rw [e1] at hi; cases hi
    | some p =>
      rw [e1] at hi
      cases e2 : ap[i]? with
      | none => rw [e2] at hi; cases hi
      | some l =>
        rw [e2] at hi
        cases hi
        rw [List.getElem?_map] at e1
        obtain ⟨pp, ep, rfl⟩ := Option.map_eq_some_iff.mp e1
        have := ends_b hw ep
        show pp.1 < _ ∧ pp.2.1 < _
        omega
  intro e he
  unfold bothT at he
  rcases List.mem_append.mp he with he | he
  · exact h1 e he
  · obtain ⟨x, hx, rfl⟩ := List.mem_map.mp he
    have := h1 x hx
    exact ⟨this.2, this.1⟩
theorem pure_least_places {Z : CT} : PureD 5 14 (fs_least_places K Z) (w_least_places K Z) := by
  rintro cs q e - ⟨us, ps, m, M, sh, nets, ap, r, rfl, hw, hs, hn, ha, hl, hq⟩
  have h12 := hw.w.1.2.1
  rw [iD_len] at h12
  have h36 := hw.w.2.1
  rw [List.length_map] at h36
  have le : (endT (ps.map (unP m)) ap).length = ps.length := by unfold endT; rw [List.length_zipWith, List.length_map, ha, Nat.min_self]
  have lst : (stP sh nets).length = us.length := by unfold stP; rw [List.length_zipWith, hs.1, hn, Nat.min_self]
  simp only [w_least_places, wSq]
  refine c1_least_places_ok hn hs h12 fun p5 => ?_
  simp only [wPeekR, wTor, wSor, wXor, gNotInL, wAugVC, wRetOwnG, wRetSortFr, wExtend, gMaxT, gMinT, wAppendB, gRepT1, wFrzD, dcOf, wKeys, wDGet, wDIn, wDkNew, wDtNew, wDlNew, wLate, wPopAt, wIsiT, wRepOwn, gRepL, wAugSOwn, wListRgOwn, wZipK3, gRepT, wCountB, wIndexB, wIsiOwn, wPeekL, wCallFr, wStar, wSortSet, wTryAs, wIsE, offE, wListRg1, wListRg2, wRngDown, wZipK, gInL, gNotInT, wCatOwn, gIsB, gNotB, D.adr.injEq, Cont.pool.injEq, ixN31, ne_eq, List.map_cons, List.map_nil, wPoolOpen, wPoolClose, wPop0, wPopTo, wListOwn, wRemove, wRaise0, wRaise1, wAugOwn, wEnumL, wTru, wSlA, gCatA, gLtT, gLeT, wFrz, wChain3, wAttr, wMkF, wEnumT, wRevT, wDict0, wDict1, numD3, Nat.reduceAdd, atI0, atI1, atI2, atI3, atI4, ixN51, ixN52, ixN53, List.length_map, wNever, scal, V.int.injEq, V.str.injEq, V.bl.injEq, wSq, wNext, wBreak, wCont, wDrop, wRet, wRetN, wIfS, wAsg, wPar, wLstOwn, wAppend, wSetOwn, wIxOwn, wPeek, wRetOwn, wRetFr, wFor, wB, wNot, wAnd, wOr, wAndV, wOrV, wNotV, wIf, wChain, wNil, wCons, wCB, wTup, wLst, wNoPart, wPart, wSlT, wSlL, wSeq, wRng1, wRng2, wZip, wName, wNilT, wConsT, wTupT, wYes, wNeg, wVar, wC, wOp, wcNil, wcCons, wcOwn, wCall, wCallOwn, slots, cellsOf, OwnArgs, putBack, g2I, g2IC, gLen, gAbs, gGcd, gInt1, gTupleOf, gListOf, gIx, gCatT, gCat, gEq, gNe, gIsN, gNotN, scD, seqD_t, seqD_l, seqD_f, isNonD, List.nodup_cons, List.mem_cons, List.not_mem_nil, or_false, not_false_eq_true, Nat.reduceEqDiff, L3.Keeps, ends, wipeD, List.replicate, List.cons_append, List.nil_append, List.append_nil, List.getElem?_cons_zero, List.getElem?_cons_succ, List.set_cons_zero, List.set_cons_succ, List.getD_cons_zero, List.getD_cons_succ, List.length_cons, List.length_nil, List.nodup_nil, Option.some.injEq, Cell.dat.injEq, Cell.own.injEq, Cont.lst.injEq, D.bl.injEq, D.int.injEq, D.str.injEq, D.tup.injEq, D.lst.injEq, Arg.d.injEq, List.cons.injEq, exists_and_left, exists_and_right, exists_eq_left', exists_eq_left, exists_eq_right, exists_eq_right', exists_eq, exists_eq', and_true, true_and, and_assoc, and_self, exists_const, reduceCtorEq, web_wE, web_pE, webD_inj]
  refine c2_least_places_ok (m := m) hw ha ?_
  simp only [seqD_l, wPeekR, wTor, wSor, wXor, gNotInL, wAugVC, wRetOwnG, wRetSortFr, wExtend, gMaxT, gMinT, wAppendB, gRepT1, wFrzD, dcOf, wKeys, wDGet, wDIn, wDkNew, wDtNew, wDlNew, wLate, wPopAt, wIsiT, wRepOwn, gRepL, wAugSOwn, wListRgOwn, wZipK3, gRepT, wCountB, wIndexB, wIsiOwn, wPeekL, wCallFr, wStar, wSortSet, wTryAs, wIsE, offE, wListRg1, wListRg2, wRngDown, wZipK, gInL, gNotInT, wCatOwn, gIsB, gNotB, D.adr.injEq, Cont.pool.injEq, ixN31, ne_eq, List.map_cons, List.map_nil, wPoolOpen, wPoolClose, wPop0, wPopTo, wListOwn, wRemove, wRaise0, wRaise1, wAugOwn, wEnumL, wTru, wSlA, gCatA, gLtT, gLeT, wFrz, wChain3, wAttr, wMkF, wEnumT, wRevT, wDict0, wDict1, numD3, Nat.reduceAdd, atI0, atI1, atI2, atI3, atI4, ixN51, ixN52, ixN53, List.length_map, wNever, scal, V.int.injEq, V.str.injEq, V.bl.injEq, wSq, wNext, wBreak, wCont, wDrop, wRet, wRetN, wIfS, wAsg, wPar, wLstOwn, wAppend, wSetOwn, wIxOwn, wPeek, wRetOwn, wRetFr, wFor, wB, wNot, wAnd, wOr, wAndV, wOrV, wNotV, wIf, wChain, wNil, wCons, wCB, wTup, wLst, wNoPart, wPart, wSlT, wSlL, wSeq, wRng1, wRng2, wZip, wName, wNilT, wConsT, wTupT, wYes, wNeg, wVar, wC, wOp, wcNil, wcCons, wcOwn, wCall, wCallOwn, slots, cellsOf, OwnArgs, putBack, g2I, g2IC, gLen, gAbs, gGcd, gInt1, gTupleOf, gListOf, gIx, gCatT, gCat, gEq, gNe, gIsN, gNotN, scD, seqD_t, seqD_l, seqD_f, isNonD, List.nodup_cons, List.mem_cons, List.not_mem_nil, or_false, not_false_eq_true, Nat.reduceEqDiff, L3.Keeps, ends, wipeD, List.replicate, List.cons_append, List.nil_append, List.append_nil, List.getElem?_cons_zero, List.getElem?_cons_succ, List.set_cons_zero, List.set_cons_succ, List.getD_cons_zero, List.getD_cons_succ, List.length_cons, List.length_nil, List.nodup_nil, Option.some.injEq, Cell.dat.injEq, Cell.own.injEq, Cont.lst.injEq, D.bl.injEq, D.int.injEq, D.str.injEq, D.tup.injEq, D.lst.injEq, Arg.d.injEq, List.cons.injEq, exists_and_left, exists_and_right, exists_eq_left', exists_eq_left, exists_eq_right, exists_eq_right', exists_eq, exists_eq', and_true, true_and, and_assoc, and_self, exists_const, reduceCtorEq, web_wE, web_pE, webD_inj]
  refine c3_least_places_ok (by omega) ?_
  simp only [seqD_l, ← List.map_append, wPeekR, wTor, wSor, wXor, gNotInL, wAugVC, wRetOwnG, wRetSortFr, wExtend, gMaxT, gMinT, wAppendB, gRepT1, wFrzD, dcOf, wKeys, wDGet, wDIn, wDkNew, wDtNew, wDlNew, wLate, wPopAt, wIsiT, wRepOwn, gRepL, wAugSOwn, wListRgOwn, wZipK3, gRepT, wCountB, wIndexB, wIsiOwn, wPeekL, wCallFr, wStar, wSortSet, wTryAs, wIsE, offE, wListRg1, wListRg2, wRngDown, wZipK, gInL, gNotInT, wCatOwn, gIsB, gNotB, D.adr.injEq, Cont.pool.injEq, ixN31, ne_eq, List.map_cons, List.map_nil, wPoolOpen, wPoolClose, wPop0, wPopTo, wListOwn, wRemove, wRaise0, wRaise1, wAugOwn, wEnumL, wTru, wSlA, gCatA, gLtT, gLeT, wFrz, wChain3, wAttr, wMkF, wEnumT, wRevT, wDict0, wDict1, numD3, Nat.reduceAdd, atI0, atI1, atI2, atI3, atI4, ixN51, ixN52, ixN53, List.length_map, wNever, scal, V.int.injEq, V.str.injEq, V.bl.injEq, wSq, wNext, wBreak, wCont, wDrop, wRet, wRetN, wIfS, wAsg, wPar, wLstOwn, wAppend, wSetOwn, wIxOwn, wPeek, wRetOwn, wRetFr, wFor, wB, wNot, wAnd, wOr, wAndV, wOrV, wNotV, wIf, wChain, wNil, wCons, wCB, wTup, wLst, wNoPart, wPart, wSlT, wSlL, wSeq, wRng1, wRng2, wZip, wName, wNilT, wConsT, wTupT, wYes, wNeg, wVar, wC, wOp, wcNil, wcCons, wcOwn, wCall, wCallOwn, slots, cellsOf, OwnArgs, putBack, g2I, g2IC, gLen, gAbs, gGcd, gInt1, gTupleOf, gListOf, gIx, gCatT, gCat, gEq, gNe, gIsN, gNotN, scD, seqD_t, seqD_l, seqD_f, isNonD, List.nodup_cons, List.mem_cons, List.not_mem_nil, or_false, not_false_eq_true, Nat.reduceEqDiff, L3.Keeps, ends, wipeD, List.replicate, List.cons_append, List.nil_append, List.append_nil, List.getElem?_cons_zero, List.getElem?_cons_succ, List.set_cons_zero, List.set_cons_succ, List.getD_cons_zero, List.getD_cons_succ, List.length_cons, List.length_nil, List.nodup_nil, Option.some.injEq, Cell.dat.injEq, Cell.own.injEq, Cont.lst.injEq, D.bl.injEq, D.int.injEq, D.str.injEq, D.tup.injEq, D.lst.injEq, Arg.d.injEq, List.cons.injEq, exists_and_left, exists_and_right, exists_eq_left', exists_eq_left, exists_eq_right, exists_eq_right', exists_eq, exists_eq', and_true, true_and, and_assoc, and_self, exists_const, reduceCtorEq, web_wE, web_pE, webD_inj]
  refine ⟨by rw [List.length_append, List.length_map]; omega, ?_⟩
  refine l5_least_places_ok hs lst (both_in hw) hl (fun z c5 c9 c10 c11 c12 c14 c15 c16 c17 c18 => ?_) fun pl' z c9 c10 c11 c12 c14 c15 c16 c17 c18 => ?_
  · rw [z] at hq
    simp only [wPeekR, wTor, wSor, wXor, gNotInL, wAugVC, wRetOwnG, wRetSortFr, wExtend, gMaxT, gMinT, wAppendB, gRepT1, wFrzD, dcOf, wKeys, wDGet, wDIn, wDkNew, wDtNew, wDlNew, wLate, wPopAt, wIsiT, wRepOwn, gRepL, wAugSOwn, wListRgOwn, wZipK3, gRepT, wCountB, wIndexB, wIsiOwn, wPeekL, wCallFr, wStar, wSortSet, wTryAs, wIsE, offE, wListRg1, wListRg2, wRngDown, wZipK, gInL, gNotInT, wCatOwn, gIsB, gNotB, D.adr.injEq, Cont.pool.injEq, ixN31, ne_eq, List.map_cons, List.map_nil, wPoolOpen, wPoolClose, wPop0, wPopTo, wListOwn, wRemove, wRaise0, wRaise1, wAugOwn, wEnumL, wTru, wSlA, gCatA, gLtT, gLeT, wFrz, wChain3, wAttr, wMkF, wEnumT, wRevT, wDict0, wDict1, numD3, Nat.reduceAdd, atI0, atI1, atI2, atI3, atI4, ixN51, ixN52, ixN53, List.length_map, wNever, scal, V.int.injEq, V.str.injEq, V.bl.injEq, wSq, wNext, wBreak, wCont, wDrop, wRet, wRetN, wIfS, wAsg, wPar, wLstOwn, wAppend, wSetOwn, wIxOwn, wPeek, wRetOwn, wRetFr, wFor, wB, wNot, wAnd, wOr, wAndV, wOrV, wNotV, wIf, wChain, wNil, wCons, wCB, wTup, wLst, wNoPart, wPart, wSlT, wSlL, wSeq, wRng1, wRng2, wZip, wName, wNilT, wConsT, wTupT, wYes, wNeg, wVar, wC, wOp, wcNil, wcCons, wcOwn, wCall, wCallOwn, slots, cellsOf, OwnArgs, putBack, g2I, g2IC, gLen, gAbs, gGcd, gInt1, gTupleOf, gListOf, gIx, gCatT, gCat, gEq, gNe, gIsN, gNotN, scD, seqD_t, seqD_l, seqD_f, isNonD, List.nodup_cons, List.mem_cons, List.not_mem_nil, or_false, not_false_eq_true, Nat.reduceEqDiff, L3.Keeps, ends, wipeD, List.replicate, List.cons_append, List.nil_append, List.append_nil, List.getElem?_cons_zero, List.getElem?_cons_succ, List.set_cons_zero, List.set_cons_succ, List.getD_cons_zero, List.getD_cons_succ, List.length_cons, List.length_nil, List.nodup_nil, Option.some.injEq, Cell.dat.injEq, Cell.own.injEq, Cont.lst.injEq, D.bl.injEq, D.int.injEq, D.str.injEq, D.tup.injEq, D.lst.injEq, Arg.d.injEq, List.cons.injEq, exists_and_left, exists_and_right, exists_eq_left', exists_eq_left, exists_eq_right, exists_eq_right', exists_eq, exists_eq', and_true, true_and, and_assoc, and_self, exists_const, reduceCtorEq, web_wE, web_pE, webD_inj]
    exact hq
  · rw [z] at hq
    simp only [wPeekR, wTor, wSor, wXor, gNotInL, wAugVC, wRetOwnG, wRetSortFr, wExtend, gMaxT, gMinT, wAppendB, gRepT1, wFrzD, dcOf, wKeys, wDGet, wDIn, wDkNew, wDtNew, wDlNew, wLate, wPopAt, wIsiT, wRepOwn, gRepL, wAugSOwn, wListRgOwn, wZipK3, gRepT, wCountB, wIndexB, wIsiOwn, wPeekL, wCallFr, wStar, wSortSet, wTryAs, wIsE, offE, wListRg1, wListRg2, wRngDown, wZipK, gInL, gNotInT, wCatOwn, gIsB, gNotB, D.adr.injEq, Cont.pool.injEq, ixN31, ne_eq, List.map_cons, List.map_nil, wPoolOpen, wPoolClose, wPop0, wPopTo, wListOwn, wRemove, wRaise0, wRaise1, wAugOwn, wEnumL, wTru, wSlA, gCatA, gLtT, gLeT, wFrz, wChain3, wAttr, wMkF, wEnumT, wRevT, wDict0, wDict1, numD3, Nat.reduceAdd, atI0, atI1, atI2, atI3, atI4, ixN51, ixN52, ixN53, List.length_map, wNever, scal, V.int.injEq, V.str.injEq, V.bl.injEq, wSq, wNext, wBreak, wCont, wDrop, wRet, wRetN, wIfS, wAsg, wPar, wLstOwn, wAppend, wSetOwn, wIxOwn, wPeek, wRetOwn, wRetFr, wFor, wB, wNot, wAnd, wOr, wAndV, wOrV, wNotV, wIf, wChain, wNil, wCons, wCB, wTup, wLst, wNoPart, wPart, wSlT, wSlL, wSeq, wRng1, wRng2, wZip, wName, wNilT, wConsT, wTupT, wYes, wNeg, wVar, wC, wOp, wcNil, wcCons, wcOwn, wCall, wCallOwn, slots, cellsOf, OwnArgs, putBack, g2I, g2IC, gLen, gAbs, gGcd, gInt1, gTupleOf, gListOf, gIx, gCatT, gCat, gEq, gNe, gIsN, gNotN, scD, seqD_t, seqD_l, seqD_f, isNonD, List.nodup_cons, List.mem_cons, List.not_mem_nil, or_false, not_false_eq_true, Nat.reduceEqDiff, L3.Keeps, ends, wipeD, List.replicate, List.cons_append, List.nil_append, List.append_nil, List.getElem?_cons_zero, List.getElem?_cons_succ, List.set_cons_zero, List.set_cons_succ, List.getD_cons_zero, List.getD_cons_succ, List.length_cons, List.length_nil, List.nodup_nil, Option.some.injEq, Cell.dat.injEq, Cell.own.injEq, Cont.lst.injEq, D.bl.injEq, D.int.injEq, D.str.injEq, D.tup.injEq, D.lst.injEq, Arg.d.injEq, List.cons.injEq, exists_and_left, exists_and_right, exists_eq_left', exists_eq_left, exists_eq_right, exists_eq_right', exists_eq, exists_eq', and_true, true_and, and_assoc, and_self, exists_const, reduceCtorEq, web_wE, web_pE, webD_inj]
    exact hq
theorem ok_least_places (T : Txt K mg) : FnOk P w K mg base (L2.CX P w) 1 T.f_least_places T.fd_least_places ["web", "many", "shares", "nets", "apart"] (spOf K 5 (fs_least_places K T.Z)) := by
  refine def_ok T.F_least_places sc_least_places (wb := w_least_places K T.Z) pure_least_places ?_
  intro cdv A outer s H E hr tk
  exact ⟨_, (pss_cons (ps_setLc (i := 5) (own := [("grains", 6), ("net", 7)]) (g := (gTup K 2 (gCons (gName 6) (gCons (gName 7) gNil)))) (tt := tYes) (te := (tOp rMulA (tVar 6) (tOp rModI (tVar 7) (tC (.int 2))))) rfl sc_least_places.nd rfl rfl (sw_true rfl rfl (by rfl) (by rfl)) (pi_zipK (by rfl) T.z_zip (pa_cons (pv 2) (pa_cons (pv 3) pa_nil))) (blkOk_by (N := ["web", "many", "shares", "nets", "apart", "places", "grains", "net", "ends", "one", "other", "_", "leeway", "both", "steady", "low", "high", "above", "jump"]) (sc := defScope s_least_places) (by decide +kernel)) (fun _ _ _ _ _ => (pg_tup (by rfl) (pgs_cons (pg_name (i := 6) sc_least_places.nd rfl (by first | exact Or.inl rfl | exact Or.inr rfl)) (pgs_cons (pg_name (i := 7) sc_least_places.nd rfl (by first | exact Or.inl rfl | exact Or.inr rfl)) pgs_nil)))) (fun _ _ _ _ _ => pts_nil) (fun _ _ _ _ _ => (pe_op op_mulA (pv 6) (pe_op op_mod (pv 7) pe_int))))
      (pss_cons (ps_setLc (i := 8) (own := [("one", 9), ("other", 10), ("_", 11), ("leeway", 12)]) (g := (gTup K 2 (gCons (gTup K 3 (gCons (gName 9) (gCons (gName 10) (gCons (gName 11) gNil)))) (gCons (gName 12) gNil)))) (tt := tYes) (te := (tTup (tCons (tVar 9) (tCons (tVar 10) (tCons (tVar 12) tNil))))) rfl sc_least_places.nd rfl rfl (sw_true rfl rfl (by rfl) (by rfl)) (pi_zipK (by rfl) T.z_zip (pa_cons (pe_fld (pv 0) rfl) (pa_cons (pv 4) pa_nil))) (blkOk_by (N := ["web", "many", "shares", "nets", "apart", "places", "grains", "net", "ends", "one", "other", "_", "leeway", "both", "steady", "low", "high", "above", "jump"]) (sc := defScope s_least_places) (by decide +kernel)) (fun _ _ _ _ _ => (pg_tup (by rfl) (pgs_cons (pg_tup (by rfl) (pgs_cons (pg_name (i := 9) sc_least_places.nd rfl (by first | exact Or.inl rfl | exact Or.inr rfl)) (pgs_cons (pg_name (i := 10) sc_least_places.nd rfl (by first | exact Or.inl rfl | exact Or.inr rfl)) (pgs_cons (pg_name (i := 11) sc_least_places.nd rfl (by first | exact Or.inl rfl | exact Or.inr rfl)) pgs_nil)))) (pgs_cons (pg_name (i := 12) sc_least_places.nd rfl (by first | exact Or.inl rfl | exact Or.inr rfl)) pgs_nil)))) (fun _ _ _ _ _ => pts_nil) (fun _ _ _ _ _ => (pe_tup (pa_cons (pv 9) (pa_cons (pv 10) (pa_cons (pv 12) pa_nil))))))
      (pss_cons (ps_set (i := 13) sc_least_places.nd rfl (by first | exact Or.inl rfl | exact Or.inr rfl) (pe_lst (StX.pa_star (pv 8) (StX.pa_star (pe_lc (own := [("one", 9), ("other", 10), ("leeway", 12)]) (g := (gTup K 3 (gCons (gName 9) (gCons (gName 10) (gCons (gName 12) gNil))))) (tt := tYes) (te := (tTup (tCons (tVar 10) (tCons (tVar 9) (tCons (tVar 12) tNil))))) rfl sc_least_places.nd (pi_seq (pv 8)) (blkOk_by (N := ["web", "many", "shares", "nets", "apart", "places", "grains", "net", "ends", "one", "other", "_", "leeway", "both", "steady", "low", "high", "above", "jump"]) (sc := defScope s_least_places) (by decide +kernel)) (fun _ _ _ _ _ => (pg_tup (by rfl) (pgs_cons (pg_name (i := 9) sc_least_places.nd rfl (by first | exact Or.inl rfl | exact Or.inr rfl)) (pgs_cons (pg_name (i := 10) sc_least_places.nd rfl (by first | exact Or.inl rfl | exact Or.inr rfl)) (pgs_cons (pg_name (i := 12) sc_least_places.nd rfl (by first | exact Or.inl rfl | exact Or.inr rfl)) pgs_nil))))) (fun _ _ _ _ _ => pts_nil) (fun _ _ _ _ _ => (pe_tup (pa_cons (pv 10) (pa_cons (pv 9) (pa_cons (pv 12) pa_nil)))))) pa_nil))))
      (pss_cons (ps_set (i := 14) sc_least_places.nd rfl (by first | exact Or.inl rfl | exact Or.inr rfl) pe_bl)
      (pss_cons (ps_while (passes_of rfl) (pt_not (pt_val (pv 14)))
        (pss_cons (ps_set (i := 14) sc_least_places.nd rfl (by first | exact Or.inl rfl | exact Or.inr rfl) pe_bl)
      (pss_one (ps_for (passes_of rfl) rfl (pi_seq (pv 13)) (pg_tup (by rfl) (pgs_cons (pg_name (i := 15) sc_least_places.nd rfl (by first | exact Or.inl rfl | exact Or.inr rfl)) (pgs_cons (pg_name (i := 16) sc_least_places.nd rfl (by first | exact Or.inl rfl | exact Or.inr rfl)) (pgs_cons (pg_name (i := 12) sc_least_places.nd rfl (by first | exact Or.inl rfl | exact Or.inr rfl)) pgs_nil))))
        (pss_cons (ps_set (i := 17) sc_least_places.nd rfl (by first | exact Or.inl rfl | exact Or.inr rfl) (pe_op op_sub (pe_op op_sub (pe_ix ix_seq (pv 5) (pv 16) (fun _ _ => rfl)) (pe_ix ix_seq (pv 5) (pv 15) (fun _ _ => rfl))) (pv 12)))
      (pss_one (ps_if (pt_cmpR op_gt (pv 17) pe_int (nomark _))
        (pss_cons (ps_if (pt_cmpR op_eq (pe_ix ix_seq (pv 2) (pv 15) (fun _ _ => rfl)) pe_int (nomark _))
        (pss_one (ps_ret pe_non))
        pss_nil)
      (pss_cons (ps_set (i := 18) sc_least_places.nd rfl (by first | exact Or.inl rfl | exact Or.inr rfl) (pe_op op_mulA pe_int (pe_ix ix_seq (pv 2) (pv 15) (fun _ _ => rfl))))
      (pss_cons (ps_augS (pv 5) (pv 15) get_listN (pe_op op_mulA (pe_op op_fdivW (pe_op op_sub (pe_op op_add (pv 17) (pv 18)) pe_int) (pv 18)) (pv 18)) ip_add set_list)
      (pss_cons (ps_if (pt_cmpR op_gt (pe_ix ix_seq (pv 5) (pv 15) (fun _ _ => rfl)) (pv 1) (nomark _))
        (pss_one (ps_ret pe_non))
        pss_nil)
      (pss_one (ps_set (i := 14) sc_least_places.nd rfl (by first | exact Or.inl rfl | exact Or.inr rfl) pe_bl))))))
        pss_nil)))))))
      (pss_one (ps_ret (pv 5)))))))),
    (ds_seq (ds_lcOwn (i := 5) (vs := [6, 7]) (wI := (wZipK (wCons (wVar 2) (wCons (wVar 3) wNil)))) (wg := (wTupT 2 (wConsT (wName 6) (wConsT (wName 7) wNilT)))) (wt := wYes) (we := (wOp gMulA (wVar 6) (wOp gModI (wVar 7) (wC (.int 2))))) (di_zipK (da_cons (de_var 2) (da_cons (de_var 3) da_nil))) (dg_tup (n := 2) (dgs_cons (dg_name 6) (dgs_cons (dg_name 7) dgs_nil))) dt_yes (de_op o_mulA (de_var 6) (de_op o_mod (de_var 7) de_int)) (by decide))
      (ds_seq (ds_asg (de_lc (vs := [9, 10, 11, 12]) (wI := (wZipK (wCons (wAttr T.Z.C_Web "pipes" (wVar 0)) (wCons (wVar 4) wNil)))) (wg := (wTupT 2 (wConsT (wTupT 3 (wConsT (wName 9) (wConsT (wName 10) (wConsT (wName 11) wNilT)))) (wConsT (wName 12) wNilT)))) (wt := wYes) (we := (wTup (wCons (wVar 9) (wCons (wVar 10) (wCons (wVar 12) wNil))))) (di_zipK (da_cons (de_fld T.it_Web.cl T.na_Web_pipes (de_var 0)) (da_cons (de_var 4) da_nil))) (dg_tup (n := 2) (dgs_cons (dg_tup (n := 3) (dgs_cons (dg_name 9) (dgs_cons (dg_name 10) (dgs_cons (dg_name 11) dgs_nil)))) (dgs_cons (dg_name 12) dgs_nil))) dt_yes (de_tup (da_cons (de_var 9) (da_cons (de_var 10) (da_cons (de_var 12) da_nil)))) (by decide)) (dg_name 8))
      (ds_seq (ds_asg (de_lst (da_star (de_var 8) (da_star (de_lc (vs := [9, 10, 12]) (wI := (wSeq (wVar 8))) (wg := (wTupT 3 (wConsT (wName 9) (wConsT (wName 10) (wConsT (wName 12) wNilT))))) (wt := wYes) (we := (wTup (wCons (wVar 10) (wCons (wVar 9) (wCons (wVar 12) wNil))))) (di_seq (de_var 8)) (dg_tup (n := 3) (dgs_cons (dg_name 9) (dgs_cons (dg_name 10) (dgs_cons (dg_name 12) dgs_nil)))) dt_yes (de_tup (da_cons (de_var 10) (da_cons (de_var 9) (da_cons (de_var 12) da_nil)))) (by decide)) da_nil))) (dg_name 13))
      (ds_seq (ds_asg de_bl (dg_name 14))
      (ds_seq (ds_while (wc := (wNot (wB (wVar 14)))) (wb := (wSq (wAsg (wC (.bl true)) (wName 14))
  (l4_least_places K T.Z))) (dt_not (dt_B (de_var 14))) (ds_seq (ds_asg de_bl (dg_name 14))
      (ds_for (wI := (wSeq (wVar 13))) (wg := (wTupT 3 (wConsT (wName 15) (wConsT (wName 16) (wConsT (wName 12) wNilT))))) (wb := (wSq (wAsg (wOp gSubI (wOp gSubI (wIxOwn 5 (wVar 16)) (wIxOwn 5 (wVar 15))) (wVar 12)) (wName 17))
  (wIfS (wB (wOp gGtI (wVar 17) (wC (.int 0)))) (wSq (wIfS (wB (wOp gEq (wOp gIx (wVar 2) (wVar 15)) (wC (.int 0)))) (wRet (wC .non)) wNext)
  (wSq (wAsg (wOp gMulA (wC (.int 2)) (wOp gIx (wVar 2) (wVar 15))) (wName 18))
  (wSq (wAugOwn 5 (wVar 15) (wOp gMulA (wOp gDivW (wOp gSubI (wOp gAddI (wVar 17) (wVar 18)) (wC (.int 1))) (wVar 18)) (wVar 18)))
  (wSq (wIfS (wB (wOp gGtI (wIxOwn 5 (wVar 15)) (wVar 1))) (wRet (wC .non)) wNext)
  (wAsg (wC (.bl false)) (wName 14)))))) wNext))) (di_seq (de_var 13)) (dg_tup (n := 3) (dgs_cons (dg_name 15) (dgs_cons (dg_name 16) (dgs_cons (dg_name 12) dgs_nil)))) (ds_seq (ds_asg (de_op o_sub (de_op o_sub (de_ixOwn (i := 5) (de_var 16)) (de_ixOwn (i := 5) (de_var 15))) (de_var 12)) (dg_name 17))
      (ds_if (dt_B (de_op o_gt (de_var 17) de_int)) (ds_seq (ds_if (dt_B (de_op o_eq (de_op o_ix (de_var 2) (de_var 15)) de_int)) (ds_ret de_non) ds_nil)
      (ds_seq (ds_asg (de_op o_mulA de_int (de_op o_ix (de_var 2) (de_var 15))) (dg_name 18))
      (ds_seq (ds_augOwn (i := 5) (de_var 15) (de_op o_mulA (de_op o_fdivW (de_op o_sub (de_op o_add (de_var 17) (de_var 18)) de_int) (de_var 18)) (de_var 18)))
      (ds_seq (ds_if (dt_B (de_op o_gt (de_ixOwn (i := 5) (de_var 15)) (de_var 1))) (ds_ret de_non) ds_nil)
      (ds_asg de_bl (dg_name 14)))))) ds_nil)))))
      (ds_retOwn (i := 5)))))))⟩
abbrev s_standing_of : Stmt := topS 38
theorem sc_standing_of : FnScope ["web", "pattern", "many", "shares", "apart", "nets", "places", "place", "grains", "net"] ["web", "pattern"] (defScope s_standing_of) := ⟨rfl, rfl, rfl, by decide +kernel, rfl, by decide +kernel, by decide +kernel⟩
def c1_standing_of (K : PySem.W.Frag) (Z : CT) : EW := wLc (wZipK3 (wCons (wVar 6) (wCons (wVar 3) (wCons (wVar 5) wNil)))) (wTupT 3 (wConsT (wName 7) (wConsT (wName 8) (wConsT (wName 9) wNilT)))) wYes (wIf (wB (wOp gGtI (wVar 8) (wC (.int 0)))) (wOp gDivW (wOp gAddI (wOp gDivW (wVar 7) (wVar 8)) (wVar 9)) (wC (.int 2))) (wC (.int 0))) [7, 8, 9]
def w_standing_of (K : PySem.W.Frag) (Z : CT) : SW := (wSq (wAsg (wCall 1 (fs_shares_of K Z) (wcCons (wVar 0) wcNil)) (wTupT 2 (wConsT (wName 2) (wConsT (wName 3) wNilT))))
  (wSq (wAsg (wCall 4 (fs_leeways K Z) (wcCons (wVar 0) (wcCons (wVar 2) (wcCons (wVar 3) (wcCons (wVar 1) wcNil))))) (wName 4))
  (wSq (wIfS (wB (wOp gIsN (wVar 4) (wC .non))) (wRet (wC .non)) wNext)
  (wSq (wAsg (wCall 2 (fs_nets_by K Z) (wcCons (wVar 0) (wcCons (wVar 1) wcNil))) (wName 5))
  (wSq (wAsg (wCall 5 (fs_least_places K Z) (wcCons (wVar 0) (wcCons (wVar 2) (wcCons (wVar 3) (wcCons (wVar 5) (wcCons (wVar 4) wcNil)))))) (wName 6))
  (wSq (wIfS (wB (wOp gIsN (wVar 6) (wC .non))) (wRet (wC .non)) wNext)
  (wRet (wCB gTupleOf (wCons (c1_standing_of K Z) wNil)))))))))
/-- may the pattern run: none where the rounds did not suffice -/
def stdF (us : List Int) (ps : List Pt) (f : List Int) : Option Bool :=
  match leeF (shS us) (netL' us.length (ps.map (unP (lcmF us))) f) (ps.map (unP (lcmF us))) f with
  | none => some false
  | some ap => (lpF (shS us) (lcmF us) (bothT (ps.map (unP (lcmF us))) ap) 60 (stP (shS us) (netL' us.length (ps.map (unP (lcmF us))) f))).map Option.isSome
theorem sh_div : ∀ w : Fin 13, ∀ m : Fin 133, 0 ≤ shF (m.val : Int) (w.val : Int) ∧ shF (m.val : Int) (w.val : Int) ≤ 132 := by decide +kernel
theorem shS_b {us : List Int} {ps : List Pt} (h : WebK us ps) : ShB us (shS us) := by
  have l := h.p us.length (Nat.le_refl _)
  rw [List.take_length] at l
  refine ⟨List.length_map _, fun s hs => ?_⟩
  obtain ⟨w, hw, rfl⟩ := List.mem_map.mp hs
  obtain ⟨i, hi⟩ := List.getElem?_of_mem hw
  have b := wid_b h hi
  have := sh_div ⟨w.toNat, by omega⟩ ⟨(lcmF us).toNat, by omega⟩
  simpa [Int.toNat_of_nonneg b.1, Int.toNat_of_nonneg (show 0 ≤ lcmF us by omega)] using this
theorem leeF_len {sh nets : List Int} : ∀ {ps : List Pp} {f l : List Int}, ps.length = f.length → leeF sh nets ps f = some l → l.length = ps.length
  | [], [], l, _, h => by
    unfold leeF at h
    cases h
    rfl
  | [], _ :: _, _, h, _ => by simp at h
  | _ :: _, [], _, h, _ => by simp at h
  | p :: ps, r :: rs, l, h, e => by
    by_cases z : (spanF sh nets p r).2 < (spanF sh nets p r).1
    · rw [leeF_no z] at e
      cases e
    · rw [leeF_yes z] at e
      obtain ⟨l', e', rfl⟩ := Option.map_eq_some_iff.mp e
      have ih := leeF_len (ps := ps) (f := rs) (by simpa using h) e'
      rw [List.length_cons, List.length_cons, ih]
def fs_standing_of (K : PySem.W.Frag) (Z : CT) : FS := fun cs q _ => ∃ us ps f b, cs = [.dat (webD Z.C_Web (.tup (iD us)) (.tup (ps.map ptD))), .dat (.tup (iD f))] ∧ WebK us ps ∧ FlowF ps f ∧ stdF us ps f = some b ∧ (b = false → q .non cs) ∧ (b = true → ∀ ts, q (.tup ts) cs)
theorem c1_standing_of_ok {Z : CT} {sh nets pl : List Int} {c0 c1 c2 c4 c7 c8 c9 : Cell} {q : D → List Cell → Prop} {e : Xn → List Cell → Prop} (hb : ∀ s ∈ sh, 0 ≤ s ∧ s ≤ 132) (h12 : sh.length ≤ 12)
    (hq : ∀ ts, q (.lst ts) [c0, c1, c2, .dat (.lst (iD sh)), c4, .dat (.tup (iD nets)), .dat (.lst (iD pl)), .any, .any, .any]) :
    c1_standing_of K Z [c0, c1, c2, .dat (.lst (iD sh)), c4, .dat (.tup (iD nets)), .dat (.lst (iD pl)), c7, c8, c9] q e := by
  unfold c1_standing_of wLc
  simp only [seqD_l, seqD_t, wPeekR, wTor, wSor, wXor, gNotInL, wAugVC, wRetOwnG, wRetSortFr, wExtend, gMaxT, gMinT, wAppendB, gRepT1, wFrzD, dcOf, wKeys, wDGet, wDIn, wDkNew, wDtNew, wDlNew, wLate, wPopAt, wIsiT, wRepOwn, gRepL, wAugSOwn, wListRgOwn, wZipK3, gRepT, wCountB, wIndexB, wIsiOwn, wPeekL, wCallFr, wStar, wSortSet, wTryAs, wIsE, offE, wListRg1, wListRg2, wRngDown, wZipK, gInL, gNotInT, wCatOwn, gIsB, gNotB, D.adr.injEq, Cont.pool.injEq, ixN31, ne_eq, List.map_cons, List.map_nil, wPoolOpen, wPoolClose, wPop0, wPopTo, wListOwn, wRemove, wRaise0, wRaise1, wAugOwn, wEnumL, wTru, wSlA, gCatA, gLtT, gLeT, wFrz, wChain3, wAttr, wMkF, wEnumT, wRevT, wDict0, wDict1, numD3, Nat.reduceAdd, atI0, atI1, atI2, atI3, atI4, ixN51, ixN52, ixN53, List.length_map, wNever, scal, V.int.injEq, V.str.injEq, V.bl.injEq, wSq, wNext, wBreak, wCont, wDrop, wRet, wRetN, wIfS, wAsg, wPar, wLstOwn, wAppend, wSetOwn, wIxOwn, wPeek, wRetOwn, wRetFr, wFor, wB, wNot, wAnd, wOr, wAndV, wOrV, wNotV, wIf, wChain, wNil, wCons, wCB, wTup, wLst, wNoPart, wPart, wSlT, wSlL, wSeq, wRng1, wRng2, wZip, wName, wNilT, wConsT, wTupT, wYes, wNeg, wVar, wC, wOp, wcNil, wcCons, wcOwn, wCall, wCallOwn, slots, cellsOf, OwnArgs, putBack, g2I, g2IC, gLen, gAbs, gGcd, gInt1, gTupleOf, gListOf, gIx, gCatT, gCat, gEq, gNe, gIsN, gNotN, scD, seqD_t, seqD_l, seqD_f, isNonD, List.nodup_cons, List.mem_cons, List.not_mem_nil, or_false, not_false_eq_true, Nat.reduceEqDiff, L3.Keeps, ends, wipeD, List.replicate, List.cons_append, List.nil_append, List.append_nil, List.getElem?_cons_zero, List.getElem?_cons_succ, List.set_cons_zero, List.set_cons_succ, List.getD_cons_zero, List.getD_cons_succ, List.length_cons, List.length_nil, List.nodup_nil, Option.some.injEq, Cell.dat.injEq, Cell.own.injEq, Cont.lst.injEq, D.bl.injEq, D.int.injEq, D.str.injEq, D.tup.injEq, D.lst.injEq, Arg.d.injEq, List.cons.injEq, exists_and_left, exists_and_right, exists_eq_left', exists_eq_left, exists_eq_right, exists_eq_right', exists_eq, exists_eq', and_true, true_and, and_assoc, and_self, exists_const, reduceCtorEq, web_wE, web_pE, webD_inj]
  have hz : (zipD3 (iD pl) (iD sh) (iD nets)).length ≤ 12 := by
    rw [zipD3_length, iD_len, iD_len, iD_len]
    omega
  refine ⟨by omega, fun i acc τ => τ = [c0, c1, c2, .dat (.lst (iD sh)), c4, .dat (.tup (iD nets)), .dat (.lst (iD pl)), .any, .any, .any], rfl, ?_, ?_⟩
  · rintro i d acc τ2 hi rfl -
    have hlt := (List.getElem?_eq_some_iff.mp hi).1
    obtain ⟨x, y, z, g1, g2, g3, g4⟩ := zip3_get (xs := iD pl) (ys := iD sh) (zs := iD nets) (i := i) hlt
    rw [g4] at hi
    cases hi
    obtain ⟨a, _, rfl⟩ := iD_at g1
    obtain ⟨b, eb, rfl⟩ := iD_at g2
    obtain ⟨c, _, rfl⟩ := iD_at g3
    have sb := hb b (List.mem_of_getElem? eb)
    simp only [wPeekR, wTor, wSor, wXor, gNotInL, wAugVC, wRetOwnG, wRetSortFr, wExtend, gMaxT, gMinT, wAppendB, gRepT1, wFrzD, dcOf, wKeys, wDGet, wDIn, wDkNew, wDtNew, wDlNew, wLate, wPopAt, wIsiT, wRepOwn, gRepL, wAugSOwn, wListRgOwn, wZipK3, gRepT, wCountB, wIndexB, wIsiOwn, wPeekL, wCallFr, wStar, wSortSet, wTryAs, wIsE, offE, wListRg1, wListRg2, wRngDown, wZipK, gInL, gNotInT, wCatOwn, gIsB, gNotB, D.adr.injEq, Cont.pool.injEq, ixN31, ne_eq, List.map_cons, List.map_nil, wPoolOpen, wPoolClose, wPop0, wPopTo, wListOwn, wRemove, wRaise0, wRaise1, wAugOwn, wEnumL, wTru, wSlA, gCatA, gLtT, gLeT, wFrz, wChain3, wAttr, wMkF, wEnumT, wRevT, wDict0, wDict1, numD3, Nat.reduceAdd, atI0, atI1, atI2, atI3, atI4, ixN51, ixN52, ixN53, List.length_map, wNever, scal, V.int.injEq, V.str.injEq, V.bl.injEq, wSq, wNext, wBreak, wCont, wDrop, wRet, wRetN, wIfS, wAsg, wPar, wLstOwn, wAppend, wSetOwn, wIxOwn, wPeek, wRetOwn, wRetFr, wFor, wB, wNot, wAnd, wOr, wAndV, wOrV, wNotV, wIf, wChain, wNil, wCons, wCB, wTup, wLst, wNoPart, wPart, wSlT, wSlL, wSeq, wRng1, wRng2, wZip, wName, wNilT, wConsT, wTupT, wYes, wNeg, wVar, wC, wOp, wcNil, wcCons, wcOwn, wCall, wCallOwn, slots, cellsOf, OwnArgs, putBack, g2I, g2IC, gLen, gAbs, gGcd, gInt1, gTupleOf, gListOf, gIx, gCatT, gCat, gEq, gNe, gIsN, gNotN, scD, seqD_t, seqD_l, seqD_f, isNonD, List.nodup_cons, List.mem_cons, List.not_mem_nil, or_false, not_false_eq_true, Nat.reduceEqDiff, L3.Keeps, ends, wipeD, List.replicate, List.cons_append, List.nil_append, List.append_nil, List.getElem?_cons_zero, List.getElem?_cons_succ, List.set_cons_zero, List.set_cons_succ, List.getD_cons_zero, List.getD_cons_succ, List.length_cons, List.length_nil, List.nodup_nil, Option.some.injEq, Cell.dat.injEq, Cell.own.injEq, Cont.lst.injEq, D.bl.injEq, D.int.injEq, D.str.injEq, D.tup.injEq, D.lst.injEq, Arg.d.injEq, List.cons.injEq, exists_and_left, exists_and_right, exists_eq_left', exists_eq_left, exists_eq_right, exists_eq_right', exists_eq, exists_eq', and_true, true_and, and_assoc, and_self, exists_const, reduceCtorEq, web_wE, web_pE, webD_inj]
    exact ⟨fun _ => ⟨fun z => ⟨wide_div (b := 40) (of_decide_eq_true z) (by omega) (by decide) (by decide), wide_div (b := 40) (by decide) (by decide) (by decide) (by decide)⟩, fun _ => trivial⟩, fun z => z.elim⟩
  · rintro acc τ2 h -
    rw [h]
    exact hq _
theorem pure_standing_of {Z : CT} : PureD 2 8 (fs_standing_of K Z) (w_standing_of K Z) := by
  rintro cs q e - ⟨us, ps, f, b, rfl, hw, hf, hs, h1, h2⟩
  have l := hw.p us.length (Nat.le_refl _)
  rw [List.take_length] at l
  have sb := shS_b hw
  have h12 := hw.w.1.2.1
  rw [iD_len] at h12
  simp only [w_standing_of, fs_shares_of, fs_leeways, fs_nets_by, fs_least_places, seqD_t, wPeekR, wTor, wSor, wXor, gNotInL, wAugVC, wRetOwnG, wRetSortFr, wExtend, gMaxT, gMinT, wAppendB, gRepT1, wFrzD, dcOf, wKeys, wDGet, wDIn, wDkNew, wDtNew, wDlNew, wLate, wPopAt, wIsiT, wRepOwn, gRepL, wAugSOwn, wListRgOwn, wZipK3, gRepT, wCountB, wIndexB, wIsiOwn, wPeekL, wCallFr, wStar, wSortSet, wTryAs, wIsE, offE, wListRg1, wListRg2, wRngDown, wZipK, gInL, gNotInT, wCatOwn, gIsB, gNotB, D.adr.injEq, Cont.pool.injEq, ixN31, ne_eq, List.map_cons, List.map_nil, wPoolOpen, wPoolClose, wPop0, wPopTo, wListOwn, wRemove, wRaise0, wRaise1, wAugOwn, wEnumL, wTru, wSlA, gCatA, gLtT, gLeT, wFrz, wChain3, wAttr, wMkF, wEnumT, wRevT, wDict0, wDict1, numD3, Nat.reduceAdd, atI0, atI1, atI2, atI3, atI4, ixN51, ixN52, ixN53, List.length_map, wNever, scal, V.int.injEq, V.str.injEq, V.bl.injEq, wSq, wNext, wBreak, wCont, wDrop, wRet, wRetN, wIfS, wAsg, wPar, wLstOwn, wAppend, wSetOwn, wIxOwn, wPeek, wRetOwn, wRetFr, wFor, wB, wNot, wAnd, wOr, wAndV, wOrV, wNotV, wIf, wChain, wNil, wCons, wCB, wTup, wLst, wNoPart, wPart, wSlT, wSlL, wSeq, wRng1, wRng2, wZip, wName, wNilT, wConsT, wTupT, wYes, wNeg, wVar, wC, wOp, wcNil, wcCons, wcOwn, wCall, wCallOwn, slots, cellsOf, OwnArgs, putBack, g2I, g2IC, gLen, gAbs, gGcd, gInt1, gTupleOf, gListOf, gIx, gCatT, gCat, gEq, gNe, gIsN, gNotN, scD, seqD_t, seqD_l, seqD_f, isNonD, List.nodup_cons, List.mem_cons, List.not_mem_nil, or_false, not_false_eq_true, Nat.reduceEqDiff, L3.Keeps, ends, wipeD, List.replicate, List.cons_append, List.nil_append, List.append_nil, List.getElem?_cons_zero, List.getElem?_cons_succ, List.set_cons_zero, List.set_cons_succ, List.getD_cons_zero, List.getD_cons_succ, List.length_cons, List.length_nil, List.nodup_nil, Option.some.injEq, Cell.dat.injEq, Cell.own.injEq, Cont.lst.injEq, D.bl.injEq, D.int.injEq, D.str.injEq, D.tup.injEq, D.lst.injEq, Arg.d.injEq, List.cons.injEq, exists_and_left, exists_and_right, exists_eq_left', exists_eq_left, exists_eq_right, exists_eq_right', exists_eq, exists_eq', and_true, true_and, and_assoc, and_self, exists_const, reduceCtorEq, web_wE, web_pE, webD_inj]
  refine ⟨us, rfl, ps, rfl, hw, us, rfl, ps, rfl, shS us, rfl, f, rfl, hw, l.2.1, l.2.2, sb, hf, ?_⟩
  unfold stdF at hs
  cases hL : leeF (shS us) (netL' us.length (ps.map (unP (lcmF us))) f) (ps.map (unP (lcmF us))) f with
  | none =>
    rw [hL] at hs
    have hs : some false = some b := hs
    cases hs
    exact ⟨fun _ => h1 rfl, fun z => (nomatch z)⟩
  | some ap =>
    rw [hL] at hs
    have hs : (lpF (shS us) (lcmF us) (bothT (ps.map (unP (lcmF us))) ap) 60 (stP (shS us) (netL' us.length (ps.map (unP (lcmF us))) f))).map Option.isSome = some b := hs
    obtain ⟨r, er, eb⟩ := Option.map_eq_some_iff.mp hs
    have la : ap.length = ps.length := by
      have := leeF_len (by rw [List.length_map, hf.1]) hL
      rw [this, List.length_map]
    refine ⟨fun z => (nomatch z), fun _ => ⟨hw.w, fl_ran hf.1, ?_⟩⟩
    rw [netS_eq (lcmF us) hf.1]
    refine ⟨us, rfl, ps, rfl, lcmF us, shS us, rfl, netL' us.length (ps.map (unP (lcmF us))) f, rfl, ap, rfl, hw, sb, netL'_len, la, r, er, ?_⟩
    cases r with
    | none => exact ⟨fun _ => h1 eb.symm, fun z => (nomatch z)⟩
    | some pl =>
      refine ⟨fun z => (nomatch z), fun _ => c1_standing_of_ok sb.2 (by rw [sb.1]; exact h12) fun ts => ?_⟩
      simp only [seqD_l, wPeekR, wTor, wSor, wXor, gNotInL, wAugVC, wRetOwnG, wRetSortFr, wExtend, gMaxT, gMinT, wAppendB, gRepT1, wFrzD, dcOf, wKeys, wDGet, wDIn, wDkNew, wDtNew, wDlNew, wLate, wPopAt, wIsiT, wRepOwn, gRepL, wAugSOwn, wListRgOwn, wZipK3, gRepT, wCountB, wIndexB, wIsiOwn, wPeekL, wCallFr, wStar, wSortSet, wTryAs, wIsE, offE, wListRg1, wListRg2, wRngDown, wZipK, gInL, gNotInT, wCatOwn, gIsB, gNotB, D.adr.injEq, Cont.pool.injEq, ixN31, ne_eq, List.map_cons, List.map_nil, wPoolOpen, wPoolClose, wPop0, wPopTo, wListOwn, wRemove, wRaise0, wRaise1, wAugOwn, wEnumL, wTru, wSlA, gCatA, gLtT, gLeT, wFrz, wChain3, wAttr, wMkF, wEnumT, wRevT, wDict0, wDict1, numD3, Nat.reduceAdd, atI0, atI1, atI2, atI3, atI4, ixN51, ixN52, ixN53, List.length_map, wNever, scal, V.int.injEq, V.str.injEq, V.bl.injEq, wSq, wNext, wBreak, wCont, wDrop, wRet, wRetN, wIfS, wAsg, wPar, wLstOwn, wAppend, wSetOwn, wIxOwn, wPeek, wRetOwn, wRetFr, wFor, wB, wNot, wAnd, wOr, wAndV, wOrV, wNotV, wIf, wChain, wNil, wCons, wCB, wTup, wLst, wNoPart, wPart, wSlT, wSlL, wSeq, wRng1, wRng2, wZip, wName, wNilT, wConsT, wTupT, wYes, wNeg, wVar, wC, wOp, wcNil, wcCons, wcOwn, wCall, wCallOwn, slots, cellsOf, OwnArgs, putBack, g2I, g2IC, gLen, gAbs, gGcd, gInt1, gTupleOf, gListOf, gIx, gCatT, gCat, gEq, gNe, gIsN, gNotN, scD, seqD_t, seqD_l, seqD_f, isNonD, List.nodup_cons, List.mem_cons, List.not_mem_nil, or_false, not_false_eq_true, Nat.reduceEqDiff, L3.Keeps, ends, wipeD, List.replicate, List.cons_append, List.nil_append, List.append_nil, List.getElem?_cons_zero, List.getElem?_cons_succ, List.set_cons_zero, List.set_cons_succ, List.getD_cons_zero, List.getD_cons_succ, List.length_cons, List.length_nil, List.nodup_nil, Option.some.injEq, Cell.dat.injEq, Cell.own.injEq, Cont.lst.injEq, D.bl.injEq, D.int.injEq, D.str.injEq, D.tup.injEq, D.lst.injEq, Arg.d.injEq, List.cons.injEq, exists_and_left, exists_and_right, exists_eq_left', exists_eq_left, exists_eq_right, exists_eq_right', exists_eq, exists_eq', and_true, true_and, and_assoc, and_self, exists_const, reduceCtorEq, web_wE, web_pE, webD_inj]
      exact h2 eb.symm ts
theorem ok_standing_of (T : Txt K mg) : FnOk P w K mg base (L2.CX P w) 5 T.f_standing_of T.fd_standing_of ["web", "pattern"] (spOf K 2 (fs_standing_of K T.Z)) := by
  refine def_ok T.F_standing_of sc_standing_of (wb := w_standing_of K T.Z) pure_standing_of ?_
  intro cdv A outer s H E hr tk
  exact ⟨_, (pss_cons (ps_asg (pe_callS (ok_shares_of T) (hr.mono (by decide)) rfl T.g_shares_of T.k_shares_of T.b_shares_of (fun σ => passAt tk σ) (pa_cons (pv 0) pa_nil)) (pg_tup (by rfl) (pgs_cons (pg_name (i := 2) sc_standing_of.nd rfl (by first | exact Or.inl rfl | exact Or.inr rfl)) (pgs_cons (pg_name (i := 3) sc_standing_of.nd rfl (by first | exact Or.inl rfl | exact Or.inr rfl)) pgs_nil))))
      (pss_cons (ps_set (i := 4) sc_standing_of.nd rfl (by first | exact Or.inl rfl | exact Or.inr rfl) (pe_callS (ok_leeways T) (hr.mono (by decide)) rfl T.g_leeways T.k_leeways T.b_leeways (fun σ => passAt tk σ) (pa_cons (pv 0) (pa_cons (pv 2) (pa_cons (pv 3) (pa_cons (pv 1) pa_nil))))))
      (pss_cons (ps_if (pt_cmpR op_isN (pv 4) pe_non (nomark _))
        (pss_one (ps_ret pe_non))
        pss_nil)
      (pss_cons (ps_set (i := 5) sc_standing_of.nd rfl (by first | exact Or.inl rfl | exact Or.inr rfl) (pe_callS (ok_nets_by T) (hr.mono (by decide)) rfl T.g_nets_by T.k_nets_by T.b_nets_by (fun σ => passAt tk σ) (pa_cons (pv 0) (pa_cons (pv 1) pa_nil))))
      (pss_cons (ps_set (i := 6) sc_standing_of.nd rfl (by first | exact Or.inl rfl | exact Or.inr rfl) (pe_callS (ok_least_places T) (hr.mono (by decide)) rfl T.g_least_places T.k_least_places T.b_least_places (fun σ => passAt tk σ) (pa_cons (pv 0) (pa_cons (pv 2) (pa_cons (pv 3) (pa_cons (pv 5) (pa_cons (pv 4) pa_nil)))))))
      (pss_cons (ps_if (pt_cmpR op_isN (pv 6) pe_non (nomark _))
        (pss_one (ps_ret pe_non))
        pss_nil)
      (pss_one (ps_ret (pe_callTy call_tuple_of (by rfl) T.z_tuple (by decide +kernel) (pa_cons (pe_lc (own := [("place", 7), ("grains", 8), ("net", 9)]) (g := (gTup K 3 (gCons (gName 7) (gCons (gName 8) (gCons (gName 9) gNil))))) (tt := tYes) (te := (tIf (tTest (tOp rGtI (tVar 8) (tC (.int 0)))) (tOp rDivW (tOp rAddI (tOp rDivW (tVar 7) (tVar 8)) (tVar 9)) (tC (.int 2))) (tC (.int 0)))) rfl sc_standing_of.nd (pi_zipK3 (by rfl) T.z_zip (pa_cons (pv 6) (pa_cons (pv 3) (pa_cons (pv 5) pa_nil)))) (blkOk_by (N := ["web", "pattern", "many", "shares", "apart", "nets", "places", "place", "grains", "net"]) (sc := defScope s_standing_of) (by decide +kernel)) (fun _ _ _ _ _ => (pg_tup (by rfl) (pgs_cons (pg_name (i := 7) sc_standing_of.nd rfl (by first | exact Or.inl rfl | exact Or.inr rfl)) (pgs_cons (pg_name (i := 8) sc_standing_of.nd rfl (by first | exact Or.inl rfl | exact Or.inr rfl)) (pgs_cons (pg_name (i := 9) sc_standing_of.nd rfl (by first | exact Or.inl rfl | exact Or.inr rfl)) pgs_nil))))) (fun _ _ _ _ _ => pts_nil) (fun _ _ _ _ _ => (pe_ifExp (pt_cmpR op_gt (pv 8) pe_int (nomark _)) (pe_op op_fdivW (pe_op op_add (pe_op op_fdivW (pv 7) (pv 8)) (pv 9)) pe_int) pe_int))) pa_nil)))))))))),
    (ds_seq (ds_asg (de_call (n := 1) (fs := fs_shares_of K T.Z) (dac_cons (de_var 0) dac_nil)) (dg_tup (n := 2) (dgs_cons (dg_name 2) (dgs_cons (dg_name 3) dgs_nil))))
      (ds_seq (ds_asg (de_call (n := 4) (fs := fs_leeways K T.Z) (dac_cons (de_var 0) (dac_cons (de_var 2) (dac_cons (de_var 3) (dac_cons (de_var 1) dac_nil))))) (dg_name 4))
      (ds_seq (ds_if (dt_B (de_op o_isN (de_var 4) de_non)) (ds_ret de_non) ds_nil)
      (ds_seq (ds_asg (de_call (n := 2) (fs := fs_nets_by K T.Z) (dac_cons (de_var 0) (dac_cons (de_var 1) dac_nil))) (dg_name 5))
      (ds_seq (ds_asg (de_call (n := 5) (fs := fs_least_places K T.Z) (dac_cons (de_var 0) (dac_cons (de_var 2) (dac_cons (de_var 3) (dac_cons (de_var 5) (dac_cons (de_var 4) dac_nil)))))) (dg_name 6))
      (ds_seq (ds_if (dt_B (de_op o_isN (de_var 6) de_non)) (ds_ret de_non) ds_nil)
      (ds_ret (de_cb o_tupleOf (da_cons (de_lc (vs := [7, 8, 9]) (wI := (wZipK3 (wCons (wVar 6) (wCons (wVar 3) (wCons (wVar 5) wNil))))) (wg := (wTupT 3 (wConsT (wName 7) (wConsT (wName 8) (wConsT (wName 9) wNilT))))) (wt := wYes) (we := (wIf (wB (wOp gGtI (wVar 8) (wC (.int 0)))) (wOp gDivW (wOp gAddI (wOp gDivW (wVar 7) (wVar 8)) (wVar 9)) (wC (.int 2))) (wC (.int 0)))) (di_zipK3 (da_cons (de_var 6) (da_cons (de_var 3) (da_cons (de_var 5) da_nil)))) (dg_tup (n := 3) (dgs_cons (dg_name 7) (dgs_cons (dg_name 8) (dgs_cons (dg_name 9) dgs_nil)))) dt_yes (de_if (dt_B (de_op o_gt (de_var 8) de_int)) (de_op o_fdivW (de_op o_add (de_op o_fdivW (de_var 7) (de_var 8)) (de_var 9)) de_int) de_int) (by decide)) da_nil)))))))))⟩
abbrev s_runs : Stmt := topS 40
theorem sc_runs : FnScope ["web", "flows", "ran"] ["web", "flows"] (defScope s_runs) := ⟨rfl, rfl, rfl, by decide +kernel, rfl, by decide +kernel, by decide +kernel⟩
def c1_runs (K : PySem.W.Frag) (Z : CT) : EW := wLc (wSeq (wVar 1)) (wName 2) wYes (wOp gNe (wVar 2) (wC (.int 0))) [2]
def w_runs (K : PySem.W.Frag) (Z : CT) : SW := (wRet (wAndV (wCB gAny (wCons (c1_runs K Z) wNil)) (wOp gNotN (wCall 2 (fs_standing_of K Z) (wcCons (wVar 0) (wcCons (wVar 1) wcNil))) (wC .non))))
def fs_runs (K : PySem.W.Frag) (Z : CT) : FS := fun cs q _ => ∃ us ps f b, cs = [.dat (webD Z.C_Web (.tup (iD us)) (.tup (ps.map ptD))), .dat (.tup (iD f))] ∧ WebK us ps ∧ FlowF ps f ∧ (f.any (fun r => decide (r ≠ 0)) = true → stdF us ps f = some b) ∧ q (.bl (f.any (fun r => decide (r ≠ 0)) && b)) cs
theorem c1_runs_ok {Z : CT} {f : List Int} {c0 c2 : Cell} {q : D → List Cell → Prop} {e : Xn → List Cell → Prop} (h : f.length ≤ 1000)
    (hq : q (.lst ((f.map fun r => decide (r ≠ 0)).map D.bl)) [c0, .dat (.tup (iD f)), .any]) : c1_runs K Z [c0, .dat (.tup (iD f)), c2] q e := by
  unfold c1_runs wLc
  simp only [seqD_t, wPeekR, wTor, wSor, wXor, gNotInL, wAugVC, wRetOwnG, wRetSortFr, wExtend, gMaxT, gMinT, wAppendB, gRepT1, wFrzD, dcOf, wKeys, wDGet, wDIn, wDkNew, wDtNew, wDlNew, wLate, wPopAt, wIsiT, wRepOwn, gRepL, wAugSOwn, wListRgOwn, wZipK3, gRepT, wCountB, wIndexB, wIsiOwn, wPeekL, wCallFr, wStar, wSortSet, wTryAs, wIsE, offE, wListRg1, wListRg2, wRngDown, wZipK, gInL, gNotInT, wCatOwn, gIsB, gNotB, D.adr.injEq, Cont.pool.injEq, ixN31, ne_eq, List.map_cons, List.map_nil, wPoolOpen, wPoolClose, wPop0, wPopTo, wListOwn, wRemove, wRaise0, wRaise1, wAugOwn, wEnumL, wTru, wSlA, gCatA, gLtT, gLeT, wFrz, wChain3, wAttr, wMkF, wEnumT, wRevT, wDict0, wDict1, numD3, Nat.reduceAdd, atI0, atI1, atI2, atI3, atI4, ixN51, ixN52, ixN53, List.length_map, wNever, scal, V.int.injEq, V.str.injEq, V.bl.injEq, wSq, wNext, wBreak, wCont, wDrop, wRet, wRetN, wIfS, wAsg, wPar, wLstOwn, wAppend, wSetOwn, wIxOwn, wPeek, wRetOwn, wRetFr, wFor, wB, wNot, wAnd, wOr, wAndV, wOrV, wNotV, wIf, wChain, wNil, wCons, wCB, wTup, wLst, wNoPart, wPart, wSlT, wSlL, wSeq, wRng1, wRng2, wZip, wName, wNilT, wConsT, wTupT, wYes, wNeg, wVar, wC, wOp, wcNil, wcCons, wcOwn, wCall, wCallOwn, slots, cellsOf, OwnArgs, putBack, g2I, g2IC, gLen, gAbs, gGcd, gInt1, gTupleOf, gListOf, gIx, gCatT, gCat, gEq, gNe, gIsN, gNotN, scD, seqD_t, seqD_l, seqD_f, isNonD, List.nodup_cons, List.mem_cons, List.not_mem_nil, or_false, not_false_eq_true, Nat.reduceEqDiff, L3.Keeps, ends, wipeD, List.replicate, List.cons_append, List.nil_append, List.append_nil, List.getElem?_cons_zero, List.getElem?_cons_succ, List.set_cons_zero, List.set_cons_succ, List.getD_cons_zero, List.getD_cons_succ, List.length_cons, List.length_nil, List.nodup_nil, Option.some.injEq, Cell.dat.injEq, Cell.own.injEq, Cont.lst.injEq, D.bl.injEq, D.int.injEq, D.str.injEq, D.tup.injEq, D.lst.injEq, Arg.d.injEq, List.cons.injEq, exists_and_left, exists_and_right, exists_eq_left', exists_eq_left, exists_eq_right, exists_eq_right', exists_eq, exists_eq', and_true, true_and, and_assoc, and_self, exists_const, reduceCtorEq, web_wE, web_pE, webD_inj]
  refine ⟨by rw [iD_len]; exact h, fun i acc τ => τ = [c0, .dat (.tup (iD f)), .any] ∧ acc = ((f.take i).map fun r => decide (r ≠ 0)).map D.bl, ⟨rfl, rfl⟩, ?_, ?_⟩
  · rintro i d acc τ2 hi ⟨rfl, rfl⟩ -
    obtain ⟨r, er, rfl⟩ := iD_at hi
    simp only [wPeekR, wTor, wSor, wXor, gNotInL, wAugVC, wRetOwnG, wRetSortFr, wExtend, gMaxT, gMinT, wAppendB, gRepT1, wFrzD, dcOf, wKeys, wDGet, wDIn, wDkNew, wDtNew, wDlNew, wLate, wPopAt, wIsiT, wRepOwn, gRepL, wAugSOwn, wListRgOwn, wZipK3, gRepT, wCountB, wIndexB, wIsiOwn, wPeekL, wCallFr, wStar, wSortSet, wTryAs, wIsE, offE, wListRg1, wListRg2, wRngDown, wZipK, gInL, gNotInT, wCatOwn, gIsB, gNotB, D.adr.injEq, Cont.pool.injEq, ixN31, ne_eq, List.map_cons, List.map_nil, wPoolOpen, wPoolClose, wPop0, wPopTo, wListOwn, wRemove, wRaise0, wRaise1, wAugOwn, wEnumL, wTru, wSlA, gCatA, gLtT, gLeT, wFrz, wChain3, wAttr, wMkF, wEnumT, wRevT, wDict0, wDict1, numD3, Nat.reduceAdd, atI0, atI1, atI2, atI3, atI4, ixN51, ixN52, ixN53, List.length_map, wNever, scal, V.int.injEq, V.str.injEq, V.bl.injEq, wSq, wNext, wBreak, wCont, wDrop, wRet, wRetN, wIfS, wAsg, wPar, wLstOwn, wAppend, wSetOwn, wIxOwn, wPeek, wRetOwn, wRetFr, wFor, wB, wNot, wAnd, wOr, wAndV, wOrV, wNotV, wIf, wChain, wNil, wCons, wCB, wTup, wLst, wNoPart, wPart, wSlT, wSlL, wSeq, wRng1, wRng2, wZip, wName, wNilT, wConsT, wTupT, wYes, wNeg, wVar, wC, wOp, wcNil, wcCons, wcOwn, wCall, wCallOwn, slots, cellsOf, OwnArgs, putBack, g2I, g2IC, gLen, gAbs, gGcd, gInt1, gTupleOf, gListOf, gIx, gCatT, gCat, gEq, gNe, gIsN, gNotN, scD, seqD_t, seqD_l, seqD_f, isNonD, List.nodup_cons, List.mem_cons, List.not_mem_nil, or_false, not_false_eq_true, Nat.reduceEqDiff, L3.Keeps, ends, wipeD, List.replicate, List.cons_append, List.nil_append, List.append_nil, List.getElem?_cons_zero, List.getElem?_cons_succ, List.set_cons_zero, List.set_cons_succ, List.getD_cons_zero, List.getD_cons_succ, List.length_cons, List.length_nil, List.nodup_nil, Option.some.injEq, Cell.dat.injEq, Cell.own.injEq, Cont.lst.injEq, D.bl.injEq, D.int.injEq, D.str.injEq, D.tup.injEq, D.lst.injEq, Arg.d.injEq, List.cons.injEq, exists_and_left, exists_and_right, exists_eq_left', exists_eq_left, exists_eq_right, exists_eq_right', exists_eq, exists_eq', and_true, true_and, and_assoc, and_self, exists_const, reduceCtorEq, web_wE, web_pE, webD_inj]
    refine ⟨fun _ => ?_, fun z => z.elim⟩
    rw [take_sn er, List.map_append, List.map_append]
    simp
  · rintro acc τ2 ⟨h1, h2⟩ -
    rw [iD_len, List.take_length] at h2
    rw [h1, h2]
    exact hq
theorem pure_runs {Z : CT} : PureD 2 1 (fs_runs K Z) (w_runs K Z) := by
  rintro cs q e - ⟨us, ps, f, b, rfl, hw, hf, hs, hq⟩
  have h36 := hw.w.2.1
  rw [List.length_map] at h36
  simp only [w_runs, fs_standing_of, wPeekR, wTor, wSor, wXor, gNotInL, wAugVC, wRetOwnG, wRetSortFr, wExtend, gMaxT, gMinT, wAppendB, gRepT1, wFrzD, dcOf, wKeys, wDGet, wDIn, wDkNew, wDtNew, wDlNew, wLate, wPopAt, wIsiT, wRepOwn, gRepL, wAugSOwn, wListRgOwn, wZipK3, gRepT, wCountB, wIndexB, wIsiOwn, wPeekL, wCallFr, wStar, wSortSet, wTryAs, wIsE, offE, wListRg1, wListRg2, wRngDown, wZipK, gInL, gNotInT, wCatOwn, gIsB, gNotB, D.adr.injEq, Cont.pool.injEq, ixN31, ne_eq, List.map_cons, List.map_nil, wPoolOpen, wPoolClose, wPop0, wPopTo, wListOwn, wRemove, wRaise0, wRaise1, wAugOwn, wEnumL, wTru, wSlA, gCatA, gLtT, gLeT, wFrz, wChain3, wAttr, wMkF, wEnumT, wRevT, wDict0, wDict1, numD3, Nat.reduceAdd, atI0, atI1, atI2, atI3, atI4, ixN51, ixN52, ixN53, List.length_map, wNever, scal, V.int.injEq, V.str.injEq, V.bl.injEq, wSq, wNext, wBreak, wCont, wDrop, wRet, wRetN, wIfS, wAsg, wPar, wLstOwn, wAppend, wSetOwn, wIxOwn, wPeek, wRetOwn, wRetFr, wFor, wB, wNot, wAnd, wOr, wAndV, wOrV, wNotV, wIf, wChain, wNil, wCons, wCB, wTup, wLst, wNoPart, wPart, wSlT, wSlL, wSeq, wRng1, wRng2, wZip, wName, wNilT, wConsT, wTupT, wYes, wNeg, wVar, wC, wOp, wcNil, wcCons, wcOwn, wCall, wCallOwn, slots, cellsOf, OwnArgs, putBack, g2I, g2IC, gLen, gAbs, gGcd, gInt1, gTupleOf, gListOf, gIx, gCatT, gCat, gEq, gNe, gIsN, gNotN, scD, seqD_t, seqD_l, seqD_f, isNonD, List.nodup_cons, List.mem_cons, List.not_mem_nil, or_false, not_false_eq_true, Nat.reduceEqDiff, L3.Keeps, ends, wipeD, List.replicate, List.cons_append, List.nil_append, List.append_nil, List.getElem?_cons_zero, List.getElem?_cons_succ, List.set_cons_zero, List.set_cons_succ, List.getD_cons_zero, List.getD_cons_succ, List.length_cons, List.length_nil, List.nodup_nil, Option.some.injEq, Cell.dat.injEq, Cell.own.injEq, Cont.lst.injEq, D.bl.injEq, D.int.injEq, D.str.injEq, D.tup.injEq, D.lst.injEq, Arg.d.injEq, List.cons.injEq, exists_and_left, exists_and_right, exists_eq_left', exists_eq_left, exists_eq_right, exists_eq_right', exists_eq, exists_eq', and_true, true_and, and_assoc, and_self, exists_const, reduceCtorEq, web_wE, web_pE, webD_inj]
  refine c1_runs_ok (by have := hf.1; omega) ?_
  simp only [wPeekR, wTor, wSor, wXor, gNotInL, wAugVC, wRetOwnG, wRetSortFr, wExtend, gMaxT, gMinT, wAppendB, gRepT1, wFrzD, dcOf, wKeys, wDGet, wDIn, wDkNew, wDtNew, wDlNew, wLate, wPopAt, wIsiT, wRepOwn, gRepL, wAugSOwn, wListRgOwn, wZipK3, gRepT, wCountB, wIndexB, wIsiOwn, wPeekL, wCallFr, wStar, wSortSet, wTryAs, wIsE, offE, wListRg1, wListRg2, wRngDown, wZipK, gInL, gNotInT, wCatOwn, gIsB, gNotB, D.adr.injEq, Cont.pool.injEq, ixN31, ne_eq, List.map_cons, List.map_nil, wPoolOpen, wPoolClose, wPop0, wPopTo, wListOwn, wRemove, wRaise0, wRaise1, wAugOwn, wEnumL, wTru, wSlA, gCatA, gLtT, gLeT, wFrz, wChain3, wAttr, wMkF, wEnumT, wRevT, wDict0, wDict1, numD3, Nat.reduceAdd, atI0, atI1, atI2, atI3, atI4, ixN51, ixN52, ixN53, List.length_map, wNever, scal, V.int.injEq, V.str.injEq, V.bl.injEq, wSq, wNext, wBreak, wCont, wDrop, wRet, wRetN, wIfS, wAsg, wPar, wLstOwn, wAppend, wSetOwn, wIxOwn, wPeek, wRetOwn, wRetFr, wFor, wB, wNot, wAnd, wOr, wAndV, wOrV, wNotV, wIf, wChain, wNil, wCons, wCB, wTup, wLst, wNoPart, wPart, wSlT, wSlL, wSeq, wRng1, wRng2, wZip, wName, wNilT, wConsT, wTupT, wYes, wNeg, wVar, wC, wOp, wcNil, wcCons, wcOwn, wCall, wCallOwn, slots, cellsOf, OwnArgs, putBack, g2I, g2IC, gLen, gAbs, gGcd, gInt1, gTupleOf, gListOf, gIx, gCatT, gCat, gEq, gNe, gIsN, gNotN, scD, seqD_t, seqD_l, seqD_f, isNonD, List.nodup_cons, List.mem_cons, List.not_mem_nil, or_false, not_false_eq_true, Nat.reduceEqDiff, L3.Keeps, ends, wipeD, List.replicate, List.cons_append, List.nil_append, List.append_nil, List.getElem?_cons_zero, List.getElem?_cons_succ, List.set_cons_zero, List.set_cons_succ, List.getD_cons_zero, List.getD_cons_succ, List.length_cons, List.length_nil, List.nodup_nil, Option.some.injEq, Cell.dat.injEq, Cell.own.injEq, Cont.lst.injEq, D.bl.injEq, D.int.injEq, D.str.injEq, D.tup.injEq, D.lst.injEq, Arg.d.injEq, List.cons.injEq, exists_and_left, exists_and_right, exists_eq_left', exists_eq_left, exists_eq_right, exists_eq_right', exists_eq, exists_eq', and_true, true_and, and_assoc, and_self, exists_const, reduceCtorEq, web_wE, web_pE, webD_inj]
  refine ⟨_, _, .inl rfl, rfl, ?_⟩
  have e : (f.map fun r => decide (r ≠ 0)).any id = f.any fun r => decide (r ≠ 0) := by
    rw [List.any_map]
    rfl
  rw [e]
  refine ⟨_, rfl, fun z => ?_, fun z => ?_⟩
  · rw [z, Bool.true_and] at hq
    exact ⟨us, rfl, ps, rfl, f, rfl, hw, hf, b, hs z, fun y => by rw [y] at hq; exact hq, fun y _ => by rw [y] at hq; exact hq⟩
  · rw [z, Bool.false_and] at hq
    exact hq
theorem ok_runs (T : Txt K mg) : FnOk P w K mg base (L2.CX P w) 6 T.f_runs T.fd_runs ["web", "flows"] (spOf K 2 (fs_runs K T.Z)) := by
  refine def_ok T.F_runs sc_runs (wb := w_runs K T.Z) pure_runs ?_
  intro cdv A outer s H E hr tk
  exact ⟨_, (pss_one (ps_ret (pe_and (pe_callB (cr_any (by rfl)) (by rfl) T.z_any (by decide +kernel) (pa_cons (pe_lc (own := [("ran", 2)]) (g := (gName 2)) (tt := tYes) (te := (tOp rNe (tVar 2) (tC (.int 0)))) rfl sc_runs.nd (pi_seq (pv 1)) (blkOk_by (N := ["web", "flows", "ran"]) (sc := defScope s_runs) (by decide +kernel)) (fun _ _ _ _ _ => (pg_name (i := 2) sc_runs.nd rfl (by first | exact Or.inl rfl | exact Or.inr rfl))) (fun _ _ _ _ _ => pts_nil) (fun _ _ _ _ _ => (pe_cmpR op_ne (pv 2) pe_int (nomark _)))) pa_nil)) (pe_one (pe_cmpR op_notN (pe_callS (ok_standing_of T) (hr.mono (by decide)) rfl T.g_standing_of T.k_standing_of T.b_standing_of (fun σ => passAt tk σ) (pa_cons (pv 0) (pa_cons (pv 1) pa_nil))) pe_non (nomark _)))))),
    (ds_ret (de_and (de_cb o_any (da_cons (de_lc (vs := [2]) (wI := (wSeq (wVar 1))) (wg := (wName 2)) (wt := wYes) (we := (wOp gNe (wVar 2) (wC (.int 0)))) (di_seq (de_var 1)) (dg_name 2) dt_yes (de_op o_ne (de_var 2) de_int) (by decide)) da_nil)) (de_op o_notN (de_call (n := 2) (fs := fs_standing_of K T.Z) (dac_cons (de_var 0) (dac_cons (de_var 1) dac_nil))) de_non)))⟩
abbrev s_stills : Stmt := topS 41
theorem sc_stills : FnScope ["web", "flows"] ["web"] (defScope s_stills) := ⟨rfl, rfl, rfl, by decide +kernel, rfl, by decide +kernel, by decide +kernel⟩
def l1_stills (K : PySem.W.Frag) (Z : CT) : SW := wFor (wSeq (wCall 1 (fs_all_flows K Z) (wcCons (wVar 0) wcNil))) (wName 1) (wIfS (wB (wCall 2 (fs_runs K Z) (wcCons (wVar 0) (wcCons (wVar 1) wcNil)))) (wRet (wC (.bl false))) wNext)
def w_stills (K : PySem.W.Frag) (Z : CT) : SW := (wSq (l1_stills K Z)
  (wRet (wC (.bl true))))
/-- nothing of these runs -/
def stillF (us : List Int) (ps : List Pt) : List (List Int) → Option Bool
  | [] => some true
  | f :: r => if f.any (fun x => decide (x ≠ 0)) = true then
      match stdF us ps f with
      | none => none
      | some true => some false
      | some false => stillF us ps r
    else stillF us ps r
def fs_stills (K : PySem.W.Frag) (Z : CT) : FS := fun cs q _ => ∃ us ps b, cs = [.dat (webD Z.C_Web (.tup (iD us)) (.tup (ps.map ptD)))] ∧ WebK us ps ∧ stillF us ps (allF (ps.map ptD)) = some b ∧ q (.bl b) cs
theorem still_drop {us : List Int} {ps : List Pt} {l : List (List Int)} {i : Nat} {f : List Int} (h : l[i]? = some f) : stillF us ps (l.drop i) = stillF us ps (f :: l.drop (i + 1)) := by
  obtain ⟨l1, e1⟩ := List.getElem?_eq_some_iff.mp h
  rw [List.drop_eq_getElem_cons l1, e1]
theorem flow_of {us : List Int} {ps : List Pt} {f : List Int} (h : f ∈ allF (ps.map ptD)) : FlowF ps f := by
  obtain ⟨h1, h2⟩ := allF_in.mp h
  rw [List.length_map] at h1
  refine ⟨h1, fun i p r ep er => ?_⟩
  have := h2 i r (ptD p) er (by rw [List.getElem?_map, ep]; rfl)
  have e : stN (ptD p) = p.2.2.length := List.length_map _
  rw [e] at this
  exact this
theorem pure_stills {Z : CT} : PureD 1 1 (fs_stills K Z) (w_stills K Z) := by
  rintro cs q e - ⟨us, ps, b, rfl, hw, hs, hq⟩
  simp only [w_stills, wPeekR, wTor, wSor, wXor, gNotInL, wAugVC, wRetOwnG, wRetSortFr, wExtend, gMaxT, gMinT, wAppendB, gRepT1, wFrzD, dcOf, wKeys, wDGet, wDIn, wDkNew, wDtNew, wDlNew, wLate, wPopAt, wIsiT, wRepOwn, gRepL, wAugSOwn, wListRgOwn, wZipK3, gRepT, wCountB, wIndexB, wIsiOwn, wPeekL, wCallFr, wStar, wSortSet, wTryAs, wIsE, offE, wListRg1, wListRg2, wRngDown, wZipK, gInL, gNotInT, wCatOwn, gIsB, gNotB, D.adr.injEq, Cont.pool.injEq, ixN31, ne_eq, List.map_cons, List.map_nil, wPoolOpen, wPoolClose, wPop0, wPopTo, wListOwn, wRemove, wRaise0, wRaise1, wAugOwn, wEnumL, wTru, wSlA, gCatA, gLtT, gLeT, wFrz, wChain3, wAttr, wMkF, wEnumT, wRevT, wDict0, wDict1, numD3, Nat.reduceAdd, atI0, atI1, atI2, atI3, atI4, ixN51, ixN52, ixN53, List.length_map, wNever, scal, V.int.injEq, V.str.injEq, V.bl.injEq, wSq, wNext, wBreak, wCont, wDrop, wRet, wRetN, wIfS, wAsg, wPar, wLstOwn, wAppend, wSetOwn, wIxOwn, wPeek, wRetOwn, wRetFr, wFor, wB, wNot, wAnd, wOr, wAndV, wOrV, wNotV, wIf, wChain, wNil, wCons, wCB, wTup, wLst, wNoPart, wPart, wSlT, wSlL, wSeq, wRng1, wRng2, wZip, wName, wNilT, wConsT, wTupT, wYes, wNeg, wVar, wC, wOp, wcNil, wcCons, wcOwn, wCall, wCallOwn, slots, cellsOf, OwnArgs, putBack, g2I, g2IC, gLen, gAbs, gGcd, gInt1, gTupleOf, gListOf, gIx, gCatT, gCat, gEq, gNe, gIsN, gNotN, scD, seqD_t, seqD_l, seqD_f, isNonD, List.nodup_cons, List.mem_cons, List.not_mem_nil, or_false, not_false_eq_true, Nat.reduceEqDiff, L3.Keeps, ends, wipeD, List.replicate, List.cons_append, List.nil_append, List.append_nil, List.getElem?_cons_zero, List.getElem?_cons_succ, List.set_cons_zero, List.set_cons_succ, List.getD_cons_zero, List.getD_cons_succ, List.length_cons, List.length_nil, List.nodup_nil, Option.some.injEq, Cell.dat.injEq, Cell.own.injEq, Cont.lst.injEq, D.bl.injEq, D.int.injEq, D.str.injEq, D.tup.injEq, D.lst.injEq, Arg.d.injEq, List.cons.injEq, exists_and_left, exists_and_right, exists_eq_left', exists_eq_left, exists_eq_right, exists_eq_right', exists_eq, exists_eq', and_true, true_and, and_assoc, and_self, exists_const, reduceCtorEq, web_wE, web_pE, webD_inj]
  unfold l1_stills wFor
  simp only [fs_all_flows, fs_runs, seqD_l, wPeekR, wTor, wSor, wXor, gNotInL, wAugVC, wRetOwnG, wRetSortFr, wExtend, gMaxT, gMinT, wAppendB, gRepT1, wFrzD, dcOf, wKeys, wDGet, wDIn, wDkNew, wDtNew, wDlNew, wLate, wPopAt, wIsiT, wRepOwn, gRepL, wAugSOwn, wListRgOwn, wZipK3, gRepT, wCountB, wIndexB, wIsiOwn, wPeekL, wCallFr, wStar, wSortSet, wTryAs, wIsE, offE, wListRg1, wListRg2, wRngDown, wZipK, gInL, gNotInT, wCatOwn, gIsB, gNotB, D.adr.injEq, Cont.pool.injEq, ixN31, ne_eq, List.map_cons, List.map_nil, wPoolOpen, wPoolClose, wPop0, wPopTo, wListOwn, wRemove, wRaise0, wRaise1, wAugOwn, wEnumL, wTru, wSlA, gCatA, gLtT, gLeT, wFrz, wChain3, wAttr, wMkF, wEnumT, wRevT, wDict0, wDict1, numD3, Nat.reduceAdd, atI0, atI1, atI2, atI3, atI4, ixN51, ixN52, ixN53, List.length_map, wNever, scal, V.int.injEq, V.str.injEq, V.bl.injEq, wSq, wNext, wBreak, wCont, wDrop, wRet, wRetN, wIfS, wAsg, wPar, wLstOwn, wAppend, wSetOwn, wIxOwn, wPeek, wRetOwn, wRetFr, wFor, wB, wNot, wAnd, wOr, wAndV, wOrV, wNotV, wIf, wChain, wNil, wCons, wCB, wTup, wLst, wNoPart, wPart, wSlT, wSlL, wSeq, wRng1, wRng2, wZip, wName, wNilT, wConsT, wTupT, wYes, wNeg, wVar, wC, wOp, wcNil, wcCons, wcOwn, wCall, wCallOwn, slots, cellsOf, OwnArgs, putBack, g2I, g2IC, gLen, gAbs, gGcd, gInt1, gTupleOf, gListOf, gIx, gCatT, gCat, gEq, gNe, gIsN, gNotN, scD, seqD_t, seqD_l, seqD_f, isNonD, List.nodup_cons, List.mem_cons, List.not_mem_nil, or_false, not_false_eq_true, Nat.reduceEqDiff, L3.Keeps, ends, wipeD, List.replicate, List.cons_append, List.nil_append, List.append_nil, List.getElem?_cons_zero, List.getElem?_cons_succ, List.set_cons_zero, List.set_cons_succ, List.getD_cons_zero, List.getD_cons_succ, List.length_cons, List.length_nil, List.nodup_nil, Option.some.injEq, Cell.dat.injEq, Cell.own.injEq, Cont.lst.injEq, D.bl.injEq, D.int.injEq, D.str.injEq, D.tup.injEq, D.lst.injEq, Arg.d.injEq, List.cons.injEq, exists_and_left, exists_and_right, exists_eq_left', exists_eq_left, exists_eq_right, exists_eq_right', exists_eq, exists_eq', and_true, true_and, and_assoc, and_self, exists_const, reduceCtorEq, web_wE, web_pE, webD_inj]
  refine ⟨hw.w, hw.f, fun i τ => ∃ c1, τ = [.dat (webD Z.C_Web (.tup (iD us)) (.tup (ps.map ptD))), c1] ∧ stillF us ps ((allF (ps.map ptD)).drop i) = some b, ⟨_, rfl, hs⟩, ?_, ?_⟩
  · rintro i d τ2 hi ⟨c1, rfl, hst⟩
    rw [List.getElem?_map] at hi
    obtain ⟨f, ef, rfl⟩ := Option.map_eq_some_iff.mp hi
    have hf := flow_of (us := us) (List.mem_of_getElem? ef)
    rw [still_drop ef, stillF] at hst
    simp only [wPeekR, wTor, wSor, wXor, gNotInL, wAugVC, wRetOwnG, wRetSortFr, wExtend, gMaxT, gMinT, wAppendB, gRepT1, wFrzD, dcOf, wKeys, wDGet, wDIn, wDkNew, wDtNew, wDlNew, wLate, wPopAt, wIsiT, wRepOwn, gRepL, wAugSOwn, wListRgOwn, wZipK3, gRepT, wCountB, wIndexB, wIsiOwn, wPeekL, wCallFr, wStar, wSortSet, wTryAs, wIsE, offE, wListRg1, wListRg2, wRngDown, wZipK, gInL, gNotInT, wCatOwn, gIsB, gNotB, D.adr.injEq, Cont.pool.injEq, ixN31, ne_eq, List.map_cons, List.map_nil, wPoolOpen, wPoolClose, wPop0, wPopTo, wListOwn, wRemove, wRaise0, wRaise1, wAugOwn, wEnumL, wTru, wSlA, gCatA, gLtT, gLeT, wFrz, wChain3, wAttr, wMkF, wEnumT, wRevT, wDict0, wDict1, numD3, Nat.reduceAdd, atI0, atI1, atI2, atI3, atI4, ixN51, ixN52, ixN53, List.length_map, wNever, scal, V.int.injEq, V.str.injEq, V.bl.injEq, wSq, wNext, wBreak, wCont, wDrop, wRet, wRetN, wIfS, wAsg, wPar, wLstOwn, wAppend, wSetOwn, wIxOwn, wPeek, wRetOwn, wRetFr, wFor, wB, wNot, wAnd, wOr, wAndV, wOrV, wNotV, wIf, wChain, wNil, wCons, wCB, wTup, wLst, wNoPart, wPart, wSlT, wSlL, wSeq, wRng1, wRng2, wZip, wName, wNilT, wConsT, wTupT, wYes, wNeg, wVar, wC, wOp, wcNil, wcCons, wcOwn, wCall, wCallOwn, slots, cellsOf, OwnArgs, putBack, g2I, g2IC, gLen, gAbs, gGcd, gInt1, gTupleOf, gListOf, gIx, gCatT, gCat, gEq, gNe, gIsN, gNotN, scD, seqD_t, seqD_l, seqD_f, isNonD, List.nodup_cons, List.mem_cons, List.not_mem_nil, or_false, not_false_eq_true, Nat.reduceEqDiff, L3.Keeps, ends, wipeD, List.replicate, List.cons_append, List.nil_append, List.append_nil, List.getElem?_cons_zero, List.getElem?_cons_succ, List.set_cons_zero, List.set_cons_succ, List.getD_cons_zero, List.getD_cons_succ, List.length_cons, List.length_nil, List.nodup_nil, Option.some.injEq, Cell.dat.injEq, Cell.own.injEq, Cont.lst.injEq, D.bl.injEq, D.int.injEq, D.str.injEq, D.tup.injEq, D.lst.injEq, Arg.d.injEq, List.cons.injEq, exists_and_left, exists_and_right, exists_eq_left', exists_eq_left, exists_eq_right, exists_eq_right', exists_eq, exists_eq', and_true, true_and, and_assoc, and_self, exists_const, reduceCtorEq, web_wE, web_pE, webD_inj]
    by_cases z : f.any (fun x => decide (x ≠ 0)) = true
    · rw [if_pos z] at hst
      cases hS : stdF us ps f with
      | none => rw [hS] at hst; cases hst
      | some b' =>
        rw [hS] at hst
        refine ⟨us, rfl, ps, rfl, f, rfl, hw, hf, b', fun _ => hS, fun y => ?_, fun y => ?_⟩
        · have y : b' = true := by
            rw [Bool.and_eq_true] at y
            exact y.2
          subst y
          cases hst
          exact hq
        · have y : b' = false := by
            cases b'
            · rfl
            · have z' : (f.any fun r => decide ¬r = 0) = true := z
              rw [z'] at y
              cases y
          subst y
          exact hst
    · rw [if_neg z] at hst
      have z' : (f.any fun r => decide ¬r = 0) = false := by
        rw [← Bool.not_eq_true]
        exact z
      exact ⟨us, rfl, ps, rfl, f, rfl, hw, hf, true, fun y => absurd y z, fun y => (by rw [z'] at y; cases y), fun _ => hst⟩
  · rintro τ2 ⟨c1, rfl, hst⟩
    rw [List.drop_length] at hst
    unfold stillF at hst
    cases hst
    simp only [wPeekR, wTor, wSor, wXor, gNotInL, wAugVC, wRetOwnG, wRetSortFr, wExtend, gMaxT, gMinT, wAppendB, gRepT1, wFrzD, dcOf, wKeys, wDGet, wDIn, wDkNew, wDtNew, wDlNew, wLate, wPopAt, wIsiT, wRepOwn, gRepL, wAugSOwn, wListRgOwn, wZipK3, gRepT, wCountB, wIndexB, wIsiOwn, wPeekL, wCallFr, wStar, wSortSet, wTryAs, wIsE, offE, wListRg1, wListRg2, wRngDown, wZipK, gInL, gNotInT, wCatOwn, gIsB, gNotB, D.adr.injEq, Cont.pool.injEq, ixN31, ne_eq, List.map_cons, List.map_nil, wPoolOpen, wPoolClose, wPop0, wPopTo, wListOwn, wRemove, wRaise0, wRaise1, wAugOwn, wEnumL, wTru, wSlA, gCatA, gLtT, gLeT, wFrz, wChain3, wAttr, wMkF, wEnumT, wRevT, wDict0, wDict1, numD3, Nat.reduceAdd, atI0, atI1, atI2, atI3, atI4, ixN51, ixN52, ixN53, List.length_map, wNever, scal, V.int.injEq, V.str.injEq, V.bl.injEq, wSq, wNext, wBreak, wCont, wDrop, wRet, wRetN, wIfS, wAsg, wPar, wLstOwn, wAppend, wSetOwn, wIxOwn, wPeek, wRetOwn, wRetFr, wFor, wB, wNot, wAnd, wOr, wAndV, wOrV, wNotV, wIf, wChain, wNil, wCons, wCB, wTup, wLst, wNoPart, wPart, wSlT, wSlL, wSeq, wRng1, wRng2, wZip, wName, wNilT, wConsT, wTupT, wYes, wNeg, wVar, wC, wOp, wcNil, wcCons, wcOwn, wCall, wCallOwn, slots, cellsOf, OwnArgs, putBack, g2I, g2IC, gLen, gAbs, gGcd, gInt1, gTupleOf, gListOf, gIx, gCatT, gCat, gEq, gNe, gIsN, gNotN, scD, seqD_t, seqD_l, seqD_f, isNonD, List.nodup_cons, List.mem_cons, List.not_mem_nil, or_false, not_false_eq_true, Nat.reduceEqDiff, L3.Keeps, ends, wipeD, List.replicate, List.cons_append, List.nil_append, List.append_nil, List.getElem?_cons_zero, List.getElem?_cons_succ, List.set_cons_zero, List.set_cons_succ, List.getD_cons_zero, List.getD_cons_succ, List.length_cons, List.length_nil, List.nodup_nil, Option.some.injEq, Cell.dat.injEq, Cell.own.injEq, Cont.lst.injEq, D.bl.injEq, D.int.injEq, D.str.injEq, D.tup.injEq, D.lst.injEq, Arg.d.injEq, List.cons.injEq, exists_and_left, exists_and_right, exists_eq_left', exists_eq_left, exists_eq_right, exists_eq_right', exists_eq, exists_eq', and_true, true_and, and_assoc, and_self, exists_const, reduceCtorEq, web_wE, web_pE, webD_inj]
    exact hq
theorem ok_stills (T : Txt K mg) : FnOk P w K mg base (L2.CX P w) 7 T.f_stills T.fd_stills ["web"] (spOf K 1 (fs_stills K T.Z)) := by
  refine def_ok T.F_stills sc_stills (wb := w_stills K T.Z) pure_stills ?_
  intro cdv A outer s H E hr tk
  exact ⟨_, (pss_cons (ps_for (passes_of rfl) rfl (pi_seq (pe_callS (ok_all_flows T) (hr.mono (by decide)) rfl T.g_all_flows T.k_all_flows T.b_all_flows (fun σ => passAt tk σ) (pa_cons (pv 0) pa_nil))) (pg_name (i := 1) sc_stills.nd rfl (by first | exact Or.inl rfl | exact Or.inr rfl))
        (pss_one (ps_if (pt_val (pe_callS (ok_runs T) (hr.mono (by decide)) rfl T.g_runs T.k_runs T.b_runs (fun σ => passAt tk σ) (pa_cons (pv 0) (pa_cons (pv 1) pa_nil))))
        (pss_one (ps_ret pe_bl))
        pss_nil)))
      (pss_one (ps_ret pe_bl))),
    (ds_seq (ds_for (wI := (wSeq (wCall 1 (fs_all_flows K T.Z) (wcCons (wVar 0) wcNil)))) (wg := (wName 1)) (wb := (wIfS (wB (wCall 2 (fs_runs K T.Z) (wcCons (wVar 0) (wcCons (wVar 1) wcNil)))) (wRet (wC (.bl false))) wNext)) (di_seq (de_call (n := 1) (fs := fs_all_flows K T.Z) (dac_cons (de_var 0) dac_nil))) (dg_name 1) (ds_if (dt_B (de_call (n := 2) (fs := fs_runs K T.Z) (dac_cons (de_var 0) (dac_cons (de_var 1) dac_nil)))) (ds_ret de_bl) ds_nil))
      (ds_ret de_bl))⟩
abbrev s_calm_web : Stmt := topS 42
theorem sc_calm_web : FnScope ["web"] ["web"] (defScope s_calm_web) := ⟨rfl, rfl, rfl, by decide +kernel, rfl, by decide +kernel, by decide +kernel⟩
def w_calm_web (K : PySem.W.Frag) (Z : CT) : SW := (wSq (wDrop (wCall 1 (fs_check_widths K Z) (wcCons (wVar 0) wcNil)))
  (wSq (wDrop (wCall 2 (fs_check_flows K Z) (wcCons (wVar 0) (wcCons (wC (.int 5000)) wcNil))))
  (wRet (wCall 1 (fs_stills K Z) (wcCons (wVar 0) wcNil)))))
def calmF (us : List Int) (ps : List Pt) : Option Bool := if okB us ps = true then stillF us ps (allF (ps.map ptD)) else none
theorem calmF_ok {us : List Int} {ps : List Pt} {b : Bool} (h : calmF us ps = some b) : WebK us ps ∧ stillF us ps (allF (ps.map ptD)) = some b := by
  unfold calmF at h
  split at h
  · rename_i k
    exact ⟨webK k, h⟩
  · cases h
def fs_calm_web (K : PySem.W.Frag) (Z : CT) : FS := fun cs q _ => ∃ us ps b, cs = [.dat (webD Z.C_Web (.tup (iD us)) (.tup (ps.map ptD)))] ∧ calmF us ps = some b ∧ q (.bl b) cs
theorem pure_calm_web {Z : CT} : PureD 1 0 (fs_calm_web K Z) (w_calm_web K Z) := by
  rintro cs q e - ⟨us, ps, b, rfl, hc, hq⟩
  obtain ⟨hw, hs⟩ := calmF_ok hc
  simp only [w_calm_web, fs_check_widths, fs_check_flows, fs_stills, wPeekR, wTor, wSor, wXor, gNotInL, wAugVC, wRetOwnG, wRetSortFr, wExtend, gMaxT, gMinT, wAppendB, gRepT1, wFrzD, dcOf, wKeys, wDGet, wDIn, wDkNew, wDtNew, wDlNew, wLate, wPopAt, wIsiT, wRepOwn, gRepL, wAugSOwn, wListRgOwn, wZipK3, gRepT, wCountB, wIndexB, wIsiOwn, wPeekL, wCallFr, wStar, wSortSet, wTryAs, wIsE, offE, wListRg1, wListRg2, wRngDown, wZipK, gInL, gNotInT, wCatOwn, gIsB, gNotB, D.adr.injEq, Cont.pool.injEq, ixN31, ne_eq, List.map_cons, List.map_nil, wPoolOpen, wPoolClose, wPop0, wPopTo, wListOwn, wRemove, wRaise0, wRaise1, wAugOwn, wEnumL, wTru, wSlA, gCatA, gLtT, gLeT, wFrz, wChain3, wAttr, wMkF, wEnumT, wRevT, wDict0, wDict1, numD3, Nat.reduceAdd, atI0, atI1, atI2, atI3, atI4, ixN51, ixN52, ixN53, List.length_map, wNever, scal, V.int.injEq, V.str.injEq, V.bl.injEq, wSq, wNext, wBreak, wCont, wDrop, wRet, wRetN, wIfS, wAsg, wPar, wLstOwn, wAppend, wSetOwn, wIxOwn, wPeek, wRetOwn, wRetFr, wFor, wB, wNot, wAnd, wOr, wAndV, wOrV, wNotV, wIf, wChain, wNil, wCons, wCB, wTup, wLst, wNoPart, wPart, wSlT, wSlL, wSeq, wRng1, wRng2, wZip, wName, wNilT, wConsT, wTupT, wYes, wNeg, wVar, wC, wOp, wcNil, wcCons, wcOwn, wCall, wCallOwn, slots, cellsOf, OwnArgs, putBack, g2I, g2IC, gLen, gAbs, gGcd, gInt1, gTupleOf, gListOf, gIx, gCatT, gCat, gEq, gNe, gIsN, gNotN, scD, seqD_t, seqD_l, seqD_f, isNonD, List.nodup_cons, List.mem_cons, List.not_mem_nil, or_false, not_false_eq_true, Nat.reduceEqDiff, L3.Keeps, ends, wipeD, List.replicate, List.cons_append, List.nil_append, List.append_nil, List.getElem?_cons_zero, List.getElem?_cons_succ, List.set_cons_zero, List.set_cons_succ, List.getD_cons_zero, List.getD_cons_succ, List.length_cons, List.length_nil, List.nodup_nil, Option.some.injEq, Cell.dat.injEq, Cell.own.injEq, Cont.lst.injEq, D.bl.injEq, D.int.injEq, D.str.injEq, D.tup.injEq, D.lst.injEq, Arg.d.injEq, List.cons.injEq, exists_and_left, exists_and_right, exists_eq_left', exists_eq_left, exists_eq_right, exists_eq_right', exists_eq, exists_eq', and_true, true_and, and_assoc, and_self, exists_const, reduceCtorEq, web_wE, web_pE, webD_inj]
  exact ⟨us, rfl, ps, rfl, hw, hw.w, hw.f, by decide, us, rfl, ps, rfl, hw, b, hs, hq⟩
theorem ok_calm_web (T : Txt K mg) : FnOk P w K mg base (L2.CX P w) 8 T.f_calm_web T.fd_calm_web ["web"] (spOf K 1 (fs_calm_web K T.Z)) := by
  refine def_ok T.F_calm_web sc_calm_web (wb := w_calm_web K T.Z) pure_calm_web ?_
  intro cdv A outer s H E hr tk
  exact ⟨_, (pss_cons (ps_expr (pe_callS (ok_check_widths T) (hr.mono (by decide)) rfl T.g_check_widths T.k_check_widths T.b_check_widths (fun σ => passAt tk σ) (pa_cons (pv 0) pa_nil)))
      (pss_cons (ps_expr (pe_callS (ok_check_flows T) (hr.mono (by decide)) rfl T.g_check_flows T.k_check_flows T.b_check_flows (fun σ => passAt tk σ) (pa_cons (pv 0) (pa_cons (pe_glob (v := .int 5000) rfl T.c_MOST_PATTERNS ⟨_, rfl⟩) pa_nil))))
      (pss_one (ps_ret (pe_callS (ok_stills T) (hr.mono (by decide)) rfl T.g_stills T.k_stills T.b_stills (fun σ => passAt tk σ) (pa_cons (pv 0) pa_nil)))))),
    (ds_seq (ds_drop (de_call (n := 1) (fs := fs_check_widths K T.Z) (dac_cons (de_var 0) dac_nil)))
      (ds_seq (ds_drop (de_call (n := 2) (fs := fs_check_flows K T.Z) (dac_cons (de_var 0) (dac_cons de_int dac_nil))))
      (ds_ret (de_call (n := 1) (fs := fs_stills K T.Z) (dac_cons (de_var 0) dac_nil)))))⟩
abbrev s__law_tape : Stmt := topS 44
theorem sc__law_tape : FnScope ["script"] ["script"] (defScope s__law_tape) := ⟨rfl, rfl, rfl, by decide +kernel, rfl, by decide +kernel, by decide +kernel⟩
def w__law_tape (K : PySem.W.Frag) : SW := (wRetFr (wCons (wCB gListOf (wCons (wVar 0) wNil)) (wCons (wC (.int 0)) (wCons (wC (.int 0)) (wCons (wC (.int 1)) (wCons (wC (.int 0)) wNil))))))
/-- where the draws stand -/
def PoolC (c : Cont) : Prop := ∃ (ns : List Int) (i r t f : Int), c = .lst [.lst (ns.map D.int), .int i, .int r, .int t, .int f] ∧ 0 ≤ i ∧ 0 ≤ r
def fs__law_tape (K : PySem.W.Frag) : FSF := fun cs q _ => ∃ ns : List Int, cs = [.dat (.fl (ns.map D.int))] ∧ ns.length ≤ 1000 ∧ ∀ c : Cont, PoolC c → q c cs
theorem pure__law_tape : PureF 1 0 (fs__law_tape K) (w__law_tape K) := by
  rintro cs q e - ⟨ns, rfl, hl, hq⟩
  simp only [w__law_tape, seqD_f, wPeekR, wTor, wSor, wXor, gNotInL, wAugVC, wRetOwnG, wRetSortFr, wExtend, gMaxT, gMinT, wAppendB, gRepT1, wFrzD, dcOf, wKeys, wDGet, wDIn, wDkNew, wDtNew, wDlNew, wLate, wPopAt, wIsiT, wRepOwn, gRepL, wAugSOwn, wListRgOwn, wZipK3, gRepT, wCountB, wIndexB, wIsiOwn, wPeekL, wCallFr, wStar, wSortSet, wTryAs, wIsE, offE, wListRg1, wListRg2, wRngDown, wZipK, gInL, gNotInT, wCatOwn, gIsB, gNotB, D.adr.injEq, Cont.pool.injEq, ixN31, ne_eq, List.map_cons, List.map_nil, wPoolOpen, wPoolClose, wPop0, wPopTo, wListOwn, wRemove, wRaise0, wRaise1, wAugOwn, wEnumL, wTru, wSlA, gCatA, gLtT, gLeT, wFrz, wChain3, wAttr, wMkF, wEnumT, wRevT, wDict0, wDict1, numD3, Nat.reduceAdd, atI0, atI1, atI2, atI3, atI4, ixN51, ixN52, ixN53, List.length_map, wNever, scal, V.int.injEq, V.str.injEq, V.bl.injEq, wSq, wNext, wBreak, wCont, wDrop, wRet, wRetN, wIfS, wAsg, wPar, wLstOwn, wAppend, wSetOwn, wIxOwn, wPeek, wRetOwn, wRetFr, wFor, wB, wNot, wAnd, wOr, wAndV, wOrV, wNotV, wIf, wChain, wNil, wCons, wCB, wTup, wLst, wNoPart, wPart, wSlT, wSlL, wSeq, wRng1, wRng2, wZip, wName, wNilT, wConsT, wTupT, wYes, wNeg, wVar, wC, wOp, wcNil, wcCons, wcOwn, wCall, wCallOwn, slots, cellsOf, OwnArgs, putBack, g2I, g2IC, gLen, gAbs, gGcd, gInt1, gTupleOf, gListOf, gIx, gCatT, gCat, gEq, gNe, gIsN, gNotN, scD, seqD_t, seqD_l, seqD_f, isNonD, List.nodup_cons, List.mem_cons, List.not_mem_nil, or_false, not_false_eq_true, Nat.reduceEqDiff, L3.Keeps, ends, wipeD, List.replicate, List.cons_append, List.nil_append, List.append_nil, List.getElem?_cons_zero, List.getElem?_cons_succ, List.set_cons_zero, List.set_cons_succ, List.getD_cons_zero, List.getD_cons_succ, List.length_cons, List.length_nil, List.nodup_nil, Option.some.injEq, Cell.dat.injEq, Cell.own.injEq, Cont.lst.injEq, D.bl.injEq, D.int.injEq, D.str.injEq, D.tup.injEq, D.lst.injEq, Arg.d.injEq, List.cons.injEq, exists_and_left, exists_and_right, exists_eq_left', exists_eq_left, exists_eq_right, exists_eq_right', exists_eq, exists_eq', and_true, true_and, and_assoc, and_self, exists_const, reduceCtorEq, web_wE, web_pE, webD_inj]
  exact ⟨by decide, hq _ ⟨_, _, _, _, _, rfl, by decide, by decide⟩⟩
theorem ok__law_tape (T : Txt K mg) : FnOk P w K mg base (L2.CX P w) 1 T.f__law_tape T.fd__law_tape ["script"] (spFr K 1 (fs__law_tape K)) := by
  refine def_okFr T.F__law_tape sc__law_tape (wb := w__law_tape K) pure__law_tape ?_
  intro cdv A outer s H E hr tk
  exact ⟨_, (pss_one (ps_ret (pe_lst (pa_cons (pe_callTy call_list_of (by rfl) T.z_list (by decide +kernel) (pa_cons (pv 0) pa_nil)) (pa_cons pe_int (pa_cons pe_int (pa_cons pe_int (pa_cons pe_int pa_nil)))))))),
    (ds_retFr (da_cons (de_cb o_listOf (da_cons (de_var 0) da_nil)) (da_cons de_int (da_cons de_int (da_cons de_int (da_cons de_int da_nil))))))⟩
abbrev s__law_pick : Stmt := topS 45
theorem sc__law_pick : FnScope ["tape", "size", "digit", "cell", "mixed"] ["tape", "size"] (defScope s__law_pick) := ⟨rfl, rfl, rfl, by decide +kernel, rfl, by decide +kernel, by decide +kernel⟩
def w__law_pick (K : PySem.W.Frag) : SW := (wSq (wIfS (wB (wOp gGtI (wIxOwn 0 (wC (.int 2))) (wC (.int 1)))) (wSq (wAsg (wOp gModI (wCB gInt1 (wCons (wIxOwn 0 (wC (.int 2))) wNil)) (wVar 1)) (wName 2))
  (wSq (wSetOwn 0 (wOp gDivW (wIxOwn 0 (wC (.int 2))) (wVar 1)) (wC (.int 2)))
  (wRet (wVar 2)))) wNext)
  (wSq (wSetOwn 0 (wOp gAddI (wIxOwn 0 (wC (.int 4))) (wC (.int 1))) (wC (.int 4)))
  (wSq (wAsg (wC (.int 0)) (wName 3))
  (wSq (wIfS (wB (wOp gLtI (wIxOwn 0 (wC (.int 1))) (wCB gLen (wCons (wIxOwn 0 (wC (.int 0))) wNil)))) (wSq (wAsg (wOp gIx (wIxOwn 0 (wC (.int 0))) (wIxOwn 0 (wC (.int 1)))) (wName 3))
  (wSetOwn 0 (wOp gAddI (wIxOwn 0 (wC (.int 1))) (wC (.int 1))) (wC (.int 1)))) wNext)
  (wSq (wIfS (wB (wOp gGeI (wVar 3) (wOp gPowI (wC (.int 10)) (wC (.int 18))))) (wSq (wSetOwn 0 (wOp gDivW (wVar 3) (wVar 1)) (wC (.int 2)))
  (wRet (wOp gModI (wCB gInt1 (wCons (wVar 3) wNil)) (wVar 1)))) wNext)
  (wSq (wAsg (wOp gModI (wCB gInt1 (wCons (wOp gAddI (wOp gAddI (wOp gMulA (wIxOwn 0 (wC (.int 3))) (wC (.int 48271))) (wOp gModI (wCB gInt1 (wCons (wVar 3) wNil)) (wC (.int 2147483629)))) (wOp gMulA (wIxOwn 0 (wC (.int 4))) (wC (.int 69621)))) wNil)) (wC (.int 2147483647))) (wName 4))
  (wSq (wAsg (wOp gModI (wCB gInt1 (wCons (wOp gMulA (wVar 4) (wOp gAddI (wOp gDivW (wVar 4) (wC (.int 1009))) (wC (.int 40692)))) wNil)) (wC (.int 2147483399))) (wName 4))
  (wSq (wSetOwn 0 (wVar 4) (wC (.int 3)))
  (wRet (wOp gModI (wCB gInt1 (wCons (wOp gDivW (wVar 4) (wC (.int 16))) wNil)) (wVar 1)))))))))))
theorem divw {i j : Int} (h : 0 < j) (h2 : j < 2 ^ 30) : CDivW i j := wide_div h (b := 30) (by omega) (by decide) (by decide)
def fs__law_pick (K : PySem.W.Frag) : FS := fun cs q _ => ∃ (p : Addr) (c : Cont) (many : Int), cs = [.own p c, .dat (.int many)] ∧ PoolC c ∧ 0 < many ∧ many < 2 ^ 30 ∧
  ∀ (c' : Cont) (n : Int), PoolC c' → 0 ≤ n → n < many → q (.int n) [.own p c', .dat (.int many)]
theorem pure__law_pick : PureD 2 3 (fs__law_pick K) (w__law_pick K) := by
  rintro cs q e - ⟨p, c, many, rfl, ⟨ns, i, r, t, f, rfl, h0, h1⟩, hm, hm2, hq⟩
  have ix4 : ixN 5 4 = some 4 := by decide
  have em : ∀ x : Int, 0 ≤ x % many ∧ x % many < many := fun x => ⟨Int.emod_nonneg x (by omega), Int.emod_lt_of_pos x hm⟩
  have dm : ∀ x : Int, 0 ≤ x → 0 ≤ x / many := fun x h => Int.ediv_nonneg h (by omega)
  have ow : ∀ (i r t f n : Int), 0 ≤ i → 0 ≤ r → 0 ≤ n → n < many → q (.int n) [.own p (.lst [.lst (ns.map D.int), .int i, .int r, .int t, .int f]), .dat (.int many)] := fun i r t f n a b => hq _ _ ⟨ns, i, r, t, f, rfl, a, b⟩
  have e18 : (10 : Int) ^ Int.toNat 18 = 1000000000000000000 := by decide +kernel
  simp only [w__law_pick, ix4, e18, wPeekR, wTor, wSor, wXor, gNotInL, wAugVC, wRetOwnG, wRetSortFr, wExtend, gMaxT, gMinT, wAppendB, gRepT1, wFrzD, dcOf, wKeys, wDGet, wDIn, wDkNew, wDtNew, wDlNew, wLate, wPopAt, wIsiT, wRepOwn, gRepL, wAugSOwn, wListRgOwn, wZipK3, gRepT, wCountB, wIndexB, wIsiOwn, wPeekL, wCallFr, wStar, wSortSet, wTryAs, wIsE, offE, wListRg1, wListRg2, wRngDown, wZipK, gInL, gNotInT, wCatOwn, gIsB, gNotB, D.adr.injEq, Cont.pool.injEq, ixN31, ne_eq, List.map_cons, List.map_nil, wPoolOpen, wPoolClose, wPop0, wPopTo, wListOwn, wRemove, wRaise0, wRaise1, wAugOwn, wEnumL, wTru, wSlA, gCatA, gLtT, gLeT, wFrz, wChain3, wAttr, wMkF, wEnumT, wRevT, wDict0, wDict1, numD3, Nat.reduceAdd, atI0, atI1, atI2, atI3, atI4, ixN51, ixN52, ixN53, List.length_map, wNever, scal, V.int.injEq, V.str.injEq, V.bl.injEq, wSq, wNext, wBreak, wCont, wDrop, wRet, wRetN, wIfS, wAsg, wPar, wLstOwn, wAppend, wSetOwn, wIxOwn, wPeek, wRetOwn, wRetFr, wFor, wB, wNot, wAnd, wOr, wAndV, wOrV, wNotV, wIf, wChain, wNil, wCons, wCB, wTup, wLst, wNoPart, wPart, wSlT, wSlL, wSeq, wRng1, wRng2, wZip, wName, wNilT, wConsT, wTupT, wYes, wNeg, wVar, wC, wOp, wcNil, wcCons, wcOwn, wCall, wCallOwn, slots, cellsOf, OwnArgs, putBack, g2I, g2IC, gLen, gAbs, gGcd, gInt1, gTupleOf, gListOf, gIx, gCatT, gCat, gEq, gNe, gIsN, gNotN, scD, seqD_t, seqD_l, seqD_f, isNonD, List.nodup_cons, List.mem_cons, List.not_mem_nil, or_false, not_false_eq_true, Nat.reduceEqDiff, L3.Keeps, ends, wipeD, List.replicate, List.cons_append, List.nil_append, List.append_nil, List.getElem?_cons_zero, List.getElem?_cons_succ, List.set_cons_zero, List.set_cons_succ, List.getD_cons_zero, List.getD_cons_succ, List.length_cons, List.length_nil, List.nodup_nil, Option.some.injEq, Cell.dat.injEq, Cell.own.injEq, Cont.lst.injEq, D.bl.injEq, D.int.injEq, D.str.injEq, D.tup.injEq, D.lst.injEq, Arg.d.injEq, List.cons.injEq, exists_and_left, exists_and_right, exists_eq_left', exists_eq_left, exists_eq_right, exists_eq_right', exists_eq, exists_eq', and_true, true_and, and_assoc, and_self, exists_const, reduceCtorEq, web_wE, web_pE, webD_inj]
  have em1 : ∀ x : Int, 0 ≤ x % 2147483647 ∧ x % 2147483647 < 2147483647 := fun x => ⟨Int.emod_nonneg x (by decide), Int.emod_lt_of_pos x (by decide)⟩
  have cm : ∀ x : Int, CMulA (x % 2147483647) (x % 2147483647 / 1009 + 40692) := fun x => by
    have := em1 x
    exact cmul_l (by omega) (by omega)
  refine ⟨fun z => ⟨hm, divw hm hm2, ow _ _ _ _ _ h0 (dm _ h1) (em _).1 (em _).2⟩, fun z => ⟨fun z2 => ?_, fun z2 => ⟨⟨by decide, by decide, by decide⟩, fun y => absurd (of_decide_eq_true y) (by decide), fun _ => ⟨cmul_r (by decide) (by decide), by decide, cmul_r (by decide) (by decide), by decide, divw (by decide) (by decide), cm _, by decide, divw (by decide) (by decide), hm, ow _ _ _ _ _ h0 h1 (em _).1 (em _).2⟩⟩⟩⟩
  have z2 := of_decide_eq_true z2
  obtain ⟨k, rfl⟩ := Int.eq_ofNat_of_zero_le h0
  have hk : k < ns.length := by omega
  have ak : atI (ns.map D.int) ((k : Nat) : Int) = some (.int ns[k]) := atI_nat' (by rw [List.getElem?_map, List.getElem?_eq_getElem hk]; rfl)
  generalize ns[k] = n at ak
  exact ⟨_, ak, ⟨by decide, by decide, by decide⟩, n, rfl, fun y => ⟨n, rfl, divw hm hm2, n, rfl, hm, ow _ _ _ _ _ (by omega) (dm _ (by have := of_decide_eq_true y; omega)) (em _).1 (em _).2⟩, fun _ => ⟨cmul_r (by decide) (by decide), n, rfl, by decide, cmul_r (by decide) (by decide), by decide, divw (by decide) (by decide), cm _, by decide, divw (by decide) (by decide), hm, ow _ _ _ _ _ (by omega) h1 (em _).1 (em _).2⟩⟩
theorem ok__law_pick (T : Txt K mg) : FnOk P w K mg base (L2.CX P w) 1 T.f__law_pick T.fd__law_pick ["tape", "size"] (spOf K 2 (fs__law_pick K)) := by
  refine def_ok T.F__law_pick sc__law_pick (wb := w__law_pick K) pure__law_pick ?_
  intro cdv A outer s H E hr tk
  exact ⟨_, (pss_cons (ps_if (pt_cmpR op_gt (pe_ix ix_seq (pv 0) pe_int (fun _ _ => rfl)) pe_int (nomark _))
        (pss_cons (ps_set (i := 2) sc__law_pick.nd rfl (by first | exact Or.inl rfl | exact Or.inr rfl) (pe_op op_mod (pe_callTy call_int1 (by rfl) T.z_int (by decide +kernel) (pa_cons (pe_ix ix_seq (pv 0) pe_int (fun _ _ => rfl)) pa_nil)) (pv 1)))
      (pss_cons (ps_asg (pe_op op_fdivW (pe_ix ix_seq (pv 0) pe_int (fun _ _ => rfl)) (pv 1)) (pg_sub (pv 0) pe_int set_list))
      (pss_one (ps_ret (pv 2)))))
        pss_nil)
      (pss_cons (ps_asg (pe_op op_add (pe_ix ix_seq (pv 0) pe_int (fun _ _ => rfl)) pe_int) (pg_sub (pv 0) pe_int set_list))
      (pss_cons (ps_set (i := 3) sc__law_pick.nd rfl (by first | exact Or.inl rfl | exact Or.inr rfl) pe_int)
      (pss_cons (ps_if (pt_cmpR op_lt (pe_ix ix_seq (pv 0) pe_int (fun _ _ => rfl)) (pe_callB call_len_seq (by rfl) T.z_len (by decide +kernel) (pa_cons (pe_ix ix_seq (pv 0) pe_int (fun _ _ => rfl)) pa_nil)) (nomark _))
        (pss_cons (ps_set (i := 3) sc__law_pick.nd rfl (by first | exact Or.inl rfl | exact Or.inr rfl) (pe_ix ix_seq (pe_ix ix_seq (pv 0) pe_int (fun _ _ => rfl)) (pe_ix ix_seq (pv 0) pe_int (fun _ _ => rfl)) (fun _ _ => rfl)))
      (pss_one (ps_asg (pe_op op_add (pe_ix ix_seq (pv 0) pe_int (fun _ _ => rfl)) pe_int) (pg_sub (pv 0) pe_int set_list))))
        pss_nil)
      (pss_cons (ps_if (pt_cmpR op_ge (pv 3) (pe_op op_pow pe_int pe_int) (nomark _))
        (pss_cons (ps_asg (pe_op op_fdivW (pv 3) (pv 1)) (pg_sub (pv 0) pe_int set_list))
      (pss_one (ps_ret (pe_op op_mod (pe_callTy call_int1 (by rfl) T.z_int (by decide +kernel) (pa_cons (pv 3) pa_nil)) (pv 1)))))
        pss_nil)
      (pss_cons (ps_set (i := 4) sc__law_pick.nd rfl (by first | exact Or.inl rfl | exact Or.inr rfl) (pe_op op_mod (pe_callTy call_int1 (by rfl) T.z_int (by decide +kernel) (pa_cons (pe_op op_add (pe_op op_add (pe_op op_mulA (pe_ix ix_seq (pv 0) pe_int (fun _ _ => rfl)) pe_int) (pe_op op_mod (pe_callTy call_int1 (by rfl) T.z_int (by decide +kernel) (pa_cons (pv 3) pa_nil)) pe_int)) (pe_op op_mulA (pe_ix ix_seq (pv 0) pe_int (fun _ _ => rfl)) pe_int)) pa_nil)) pe_int))
      (pss_cons (ps_set (i := 4) sc__law_pick.nd rfl (by first | exact Or.inl rfl | exact Or.inr rfl) (pe_op op_mod (pe_callTy call_int1 (by rfl) T.z_int (by decide +kernel) (pa_cons (pe_op op_mulA (pv 4) (pe_op op_add (pe_op op_fdivW (pv 4) pe_int) pe_int)) pa_nil)) pe_int))
      (pss_cons (ps_asg (pv 4) (pg_sub (pv 0) pe_int set_list))
      (pss_one (ps_ret (pe_op op_mod (pe_callTy call_int1 (by rfl) T.z_int (by decide +kernel) (pa_cons (pe_op op_fdivW (pv 4) pe_int) pa_nil)) (pv 1)))))))))))),
    (ds_seq (ds_if (dt_B (de_op o_gt (de_ixOwn (i := 0) de_int) de_int)) (ds_seq (ds_asg (de_op o_mod (de_cb o_int1 (da_cons (de_ixOwn (i := 0) de_int) da_nil)) (de_var 1)) (dg_name 2))
      (ds_seq (ds_setOwn (i := 0) (de_op o_fdivW (de_ixOwn (i := 0) de_int) (de_var 1)) de_int)
      (ds_ret (de_var 2)))) ds_nil)
      (ds_seq (ds_setOwn (i := 0) (de_op o_add (de_ixOwn (i := 0) de_int) de_int) de_int)
      (ds_seq (ds_asg de_int (dg_name 3))
      (ds_seq (ds_if (dt_B (de_op o_lt (de_ixOwn (i := 0) de_int) (de_cb o_len (da_cons (de_ixOwn (i := 0) de_int) da_nil)))) (ds_seq (ds_asg (de_op o_ix (de_ixOwn (i := 0) de_int) (de_ixOwn (i := 0) de_int)) (dg_name 3))
      (ds_setOwn (i := 0) (de_op o_add (de_ixOwn (i := 0) de_int) de_int) de_int)) ds_nil)
      (ds_seq (ds_if (dt_B (de_op o_ge (de_var 3) (de_op o_pow de_int de_int))) (ds_seq (ds_setOwn (i := 0) (de_op o_fdivW (de_var 3) (de_var 1)) de_int)
      (ds_ret (de_op o_mod (de_cb o_int1 (da_cons (de_var 3) da_nil)) (de_var 1)))) ds_nil)
      (ds_seq (ds_asg (de_op o_mod (de_cb o_int1 (da_cons (de_op o_add (de_op o_add (de_op o_mulA (de_ixOwn (i := 0) de_int) de_int) (de_op o_mod (de_cb o_int1 (da_cons (de_var 3) da_nil)) de_int)) (de_op o_mulA (de_ixOwn (i := 0) de_int) de_int)) da_nil)) de_int) (dg_name 4))
      (ds_seq (ds_asg (de_op o_mod (de_cb o_int1 (da_cons (de_op o_mulA (de_var 4) (de_op o_add (de_op o_fdivW (de_var 4) de_int) de_int)) da_nil)) de_int) (dg_name 4))
      (ds_seq (ds_setOwn (i := 0) (de_var 4) de_int)
      (ds_ret (de_op o_mod (de_cb o_int1 (da_cons (de_op o_fdivW (de_var 4) de_int) da_nil)) (de_var 1)))))))))))⟩
abbrev s__law_lowest : Stmt := topS 47
theorem sc__law_lowest : FnScope ["top", "bottom", "one", "other"] ["top", "bottom"] (defScope s__law_lowest) := ⟨rfl, rfl, rfl, by decide +kernel, rfl, by decide +kernel, by decide +kernel⟩
def l1__law_lowest (K : PySem.W.Frag) : SW := wWhile (wB (wOp gGtI (wVar 3) (wC (.int 0)))) (wPar 2 3 (wCons (wVar 3) (wCons (wOp gModI (wCB gInt1 (wCons (wVar 2) wNil)) (wVar 3)) wNil)))
def w__law_lowest (K : PySem.W.Frag) : SW := (wSq (wAsg (wCB gAbs (wCons (wVar 0) wNil)) (wName 2))
  (wSq (wAsg (wVar 1) (wName 3))
  (wSq (l1__law_lowest K)
  (wRet (wTup (wCons (wOp gDivW (wVar 0) (wVar 2)) (wCons (wOp gDivW (wVar 1) (wVar 2)) wNil)))))))
def fs__law_lowest (K : PySem.W.Frag) : FS := fun cs q _ => ∃ (t b : Int), cs = [.dat (.int t), .dat (.int b)] ∧ 0 < b ∧ b.natAbs < 2 ^ 900 ∧ q (nf t b) cs
theorem abs_abs (a : Int) : (if a < 0 then -a else a).natAbs = a.natAbs := by split <;> omega
theorem l1__law_lowest_ok {a b : Nat} {c0 c1 : Cell} {E : EndsD} (hq : E.nx [c0, c1, .dat (.int (Nat.gcd a b : Nat)), .dat (.int 0)]) : l1__law_lowest K E [c0, c1, .dat (.int a), .dat (.int b)] := by
  unfold l1__law_lowest wWhile
  refine ⟨fun m τ => ∃ x y : Nat, τ = [c0, c1, .dat (.int x), .dat (.int y)] ∧ Nat.gcd x y = Nat.gcd a b ∧ m = y, ⟨b, a, b, rfl, rfl, rfl⟩, ?_⟩
  rintro m τ ⟨x, y, rfl, hg, rfl⟩
  simp only [wPeekR, wTor, wSor, wXor, gNotInL, wAugVC, wRetOwnG, wRetSortFr, wExtend, gMaxT, gMinT, wAppendB, gRepT1, wFrzD, dcOf, wKeys, wDGet, wDIn, wDkNew, wDtNew, wDlNew, wLate, wPopAt, wIsiT, wRepOwn, gRepL, wAugSOwn, wListRgOwn, wZipK3, gRepT, wCountB, wIndexB, wIsiOwn, wPeekL, wCallFr, wStar, wSortSet, wTryAs, wIsE, offE, wListRg1, wListRg2, wRngDown, wZipK, gInL, gNotInT, wCatOwn, gIsB, gNotB, D.adr.injEq, Cont.pool.injEq, ixN31, ne_eq, List.map_cons, List.map_nil, wPoolOpen, wPoolClose, wPop0, wPopTo, wListOwn, wRemove, wRaise0, wRaise1, wAugOwn, wEnumL, wTru, wSlA, gCatA, gLtT, gLeT, wFrz, wChain3, wAttr, wMkF, wEnumT, wRevT, wDict0, wDict1, numD3, Nat.reduceAdd, atI0, atI1, atI2, atI3, atI4, ixN51, ixN52, ixN53, List.length_map, wNever, scal, V.int.injEq, V.str.injEq, V.bl.injEq, wSq, wNext, wBreak, wCont, wDrop, wRet, wRetN, wIfS, wAsg, wPar, wLstOwn, wAppend, wSetOwn, wIxOwn, wPeek, wRetOwn, wRetFr, wFor, wB, wNot, wAnd, wOr, wAndV, wOrV, wNotV, wIf, wChain, wNil, wCons, wCB, wTup, wLst, wNoPart, wPart, wSlT, wSlL, wSeq, wRng1, wRng2, wZip, wName, wNilT, wConsT, wTupT, wYes, wNeg, wVar, wC, wOp, wcNil, wcCons, wcOwn, wCall, wCallOwn, slots, cellsOf, OwnArgs, putBack, g2I, g2IC, gLen, gAbs, gGcd, gInt1, gTupleOf, gListOf, gIx, gCatT, gCat, gEq, gNe, gIsN, gNotN, scD, seqD_t, seqD_l, seqD_f, isNonD, List.nodup_cons, List.mem_cons, List.not_mem_nil, or_false, not_false_eq_true, Nat.reduceEqDiff, L3.Keeps, ends, wipeD, List.replicate, List.cons_append, List.nil_append, List.append_nil, List.getElem?_cons_zero, List.getElem?_cons_succ, List.set_cons_zero, List.set_cons_succ, List.getD_cons_zero, List.getD_cons_succ, List.length_cons, List.length_nil, List.nodup_nil, Option.some.injEq, Cell.dat.injEq, Cell.own.injEq, Cont.lst.injEq, D.bl.injEq, D.int.injEq, D.str.injEq, D.tup.injEq, D.lst.injEq, Arg.d.injEq, List.cons.injEq, exists_and_left, exists_and_right, exists_eq_left', exists_eq_left, exists_eq_right, exists_eq_right', exists_eq, exists_eq', and_true, true_and, and_assoc, and_self, exists_const, reduceCtorEq, web_wE, web_pE, webD_inj]
  refine ⟨fun z => ?_, fun z => ?_⟩
  · have hy : 0 < m := by simpa using z
    refine ⟨by omega, x % m, Nat.mod_lt x hy, m, rfl, x % m, by simp, ?_, rfl⟩
    rw [← hg, Nat.gcd_comm m, ← Nat.gcd_rec, Nat.gcd_comm]
  · have hy : m = 0 := by simpa using z
    subst hy
    rw [Nat.gcd_zero_right] at hg
    rw [hg]
    exact hq
theorem pure__law_lowest : PureD 2 2 (fs__law_lowest K) (w__law_lowest K) := by
  rintro cs q e - ⟨t, b, rfl, h0, h1, hq⟩
  simp only [w__law_lowest, wPeekR, wTor, wSor, wXor, gNotInL, wAugVC, wRetOwnG, wRetSortFr, wExtend, gMaxT, gMinT, wAppendB, gRepT1, wFrzD, dcOf, wKeys, wDGet, wDIn, wDkNew, wDtNew, wDlNew, wLate, wPopAt, wIsiT, wRepOwn, gRepL, wAugSOwn, wListRgOwn, wZipK3, gRepT, wCountB, wIndexB, wIsiOwn, wPeekL, wCallFr, wStar, wSortSet, wTryAs, wIsE, offE, wListRg1, wListRg2, wRngDown, wZipK, gInL, gNotInT, wCatOwn, gIsB, gNotB, D.adr.injEq, Cont.pool.injEq, ixN31, ne_eq, List.map_cons, List.map_nil, wPoolOpen, wPoolClose, wPop0, wPopTo, wListOwn, wRemove, wRaise0, wRaise1, wAugOwn, wEnumL, wTru, wSlA, gCatA, gLtT, gLeT, wFrz, wChain3, wAttr, wMkF, wEnumT, wRevT, wDict0, wDict1, numD3, Nat.reduceAdd, atI0, atI1, atI2, atI3, atI4, ixN51, ixN52, ixN53, List.length_map, wNever, scal, V.int.injEq, V.str.injEq, V.bl.injEq, wSq, wNext, wBreak, wCont, wDrop, wRet, wRetN, wIfS, wAsg, wPar, wLstOwn, wAppend, wSetOwn, wIxOwn, wPeek, wRetOwn, wRetFr, wFor, wB, wNot, wAnd, wOr, wAndV, wOrV, wNotV, wIf, wChain, wNil, wCons, wCB, wTup, wLst, wNoPart, wPart, wSlT, wSlL, wSeq, wRng1, wRng2, wZip, wName, wNilT, wConsT, wTupT, wYes, wNeg, wVar, wC, wOp, wcNil, wcCons, wcOwn, wCall, wCallOwn, slots, cellsOf, OwnArgs, putBack, g2I, g2IC, gLen, gAbs, gGcd, gInt1, gTupleOf, gListOf, gIx, gCatT, gCat, gEq, gNe, gIsN, gNotN, scD, seqD_t, seqD_l, seqD_f, isNonD, List.nodup_cons, List.mem_cons, List.not_mem_nil, or_false, not_false_eq_true, Nat.reduceEqDiff, L3.Keeps, ends, wipeD, List.replicate, List.cons_append, List.nil_append, List.append_nil, List.getElem?_cons_zero, List.getElem?_cons_succ, List.set_cons_zero, List.set_cons_succ, List.getD_cons_zero, List.getD_cons_succ, List.length_cons, List.length_nil, List.nodup_nil, Option.some.injEq, Cell.dat.injEq, Cell.own.injEq, Cont.lst.injEq, D.bl.injEq, D.int.injEq, D.str.injEq, D.tup.injEq, D.lst.injEq, Arg.d.injEq, List.cons.injEq, exists_and_left, exists_and_right, exists_eq_left', exists_eq_left, exists_eq_right, exists_eq_right', exists_eq, exists_eq', and_true, true_and, and_assoc, and_self, exists_const, reduceCtorEq, web_wE, web_pE, webD_inj]
  obtain ⟨a, ea⟩ := Int.eq_ofNat_of_zero_le (show 0 ≤ (if t < 0 then -t else t) by split <;> omega)
  have ea' : a = t.natAbs := by
    have := abs_abs t
    rw [ea] at this
    omega
  obtain ⟨b', rfl⟩ := Int.eq_ofNat_of_zero_le (show 0 ≤ b by omega)
  rw [ea, ea']
  refine l1__law_lowest_ok ?_
  simp only [wPeekR, wTor, wSor, wXor, gNotInL, wAugVC, wRetOwnG, wRetSortFr, wExtend, gMaxT, gMinT, wAppendB, gRepT1, wFrzD, dcOf, wKeys, wDGet, wDIn, wDkNew, wDtNew, wDlNew, wLate, wPopAt, wIsiT, wRepOwn, gRepL, wAugSOwn, wListRgOwn, wZipK3, gRepT, wCountB, wIndexB, wIsiOwn, wPeekL, wCallFr, wStar, wSortSet, wTryAs, wIsE, offE, wListRg1, wListRg2, wRngDown, wZipK, gInL, gNotInT, wCatOwn, gIsB, gNotB, D.adr.injEq, Cont.pool.injEq, ixN31, ne_eq, List.map_cons, List.map_nil, wPoolOpen, wPoolClose, wPop0, wPopTo, wListOwn, wRemove, wRaise0, wRaise1, wAugOwn, wEnumL, wTru, wSlA, gCatA, gLtT, gLeT, wFrz, wChain3, wAttr, wMkF, wEnumT, wRevT, wDict0, wDict1, numD3, Nat.reduceAdd, atI0, atI1, atI2, atI3, atI4, ixN51, ixN52, ixN53, List.length_map, wNever, scal, V.int.injEq, V.str.injEq, V.bl.injEq, wSq, wNext, wBreak, wCont, wDrop, wRet, wRetN, wIfS, wAsg, wPar, wLstOwn, wAppend, wSetOwn, wIxOwn, wPeek, wRetOwn, wRetFr, wFor, wB, wNot, wAnd, wOr, wAndV, wOrV, wNotV, wIf, wChain, wNil, wCons, wCB, wTup, wLst, wNoPart, wPart, wSlT, wSlL, wSeq, wRng1, wRng2, wZip, wName, wNilT, wConsT, wTupT, wYes, wNeg, wVar, wC, wOp, wcNil, wcCons, wcOwn, wCall, wCallOwn, slots, cellsOf, OwnArgs, putBack, g2I, g2IC, gLen, gAbs, gGcd, gInt1, gTupleOf, gListOf, gIx, gCatT, gCat, gEq, gNe, gIsN, gNotN, scD, seqD_t, seqD_l, seqD_f, isNonD, List.nodup_cons, List.mem_cons, List.not_mem_nil, or_false, not_false_eq_true, Nat.reduceEqDiff, L3.Keeps, ends, wipeD, List.replicate, List.cons_append, List.nil_append, List.append_nil, List.getElem?_cons_zero, List.getElem?_cons_succ, List.set_cons_zero, List.set_cons_succ, List.getD_cons_zero, List.getD_cons_succ, List.length_cons, List.length_nil, List.nodup_nil, Option.some.injEq, Cell.dat.injEq, Cell.own.injEq, Cont.lst.injEq, D.bl.injEq, D.int.injEq, D.str.injEq, D.tup.injEq, D.lst.injEq, Arg.d.injEq, List.cons.injEq, exists_and_left, exists_and_right, exists_eq_left', exists_eq_left, exists_eq_right, exists_eq_right', exists_eq, exists_eq', and_true, true_and, and_assoc, and_self, exists_const, reduceCtorEq, web_wE, web_pE, webD_inj]
  exact ⟨gcd_w h0 h1 _, gcd_w h0 h1 _, by decide, hq⟩
theorem ok__law_lowest (T : Txt K mg) : FnOk P w K mg base (L2.CX P w) 1 T.f__law_lowest T.fd__law_lowest ["top", "bottom"] (spOf K 2 (fs__law_lowest K)) := by
  refine def_ok T.F__law_lowest sc__law_lowest (wb := w__law_lowest K) pure__law_lowest ?_
  intro cdv A outer s H E hr tk
  exact ⟨_, (pss_cons (ps_set (i := 2) sc__law_lowest.nd rfl (by first | exact Or.inl rfl | exact Or.inr rfl) (pe_callB call_abs (by rfl) T.z_abs (by decide +kernel) (pa_cons (pv 0) pa_nil)))
      (pss_cons (ps_set (i := 3) sc__law_lowest.nd rfl (by first | exact Or.inl rfl | exact Or.inr rfl) (pv 1))
      (pss_cons (ps_while (passes_of rfl) (pt_cmpR op_gt (pv 3) pe_int (nomark _))
        (pss_one (ps_par (i := 2) (j := 3) (by rfl) sc__law_lowest.nd rfl rfl (by decide) rfl rfl (pa_cons (pv 3) (pa_cons (pe_op op_mod (pe_callTy call_int1 (by rfl) T.z_int (by decide +kernel) (pa_cons (pv 2) pa_nil)) (pv 3)) pa_nil)) (by rfl))))
      (pss_one (ps_ret (pe_tup (pa_cons (pe_op op_fdivW (pv 0) (pv 2)) (pa_cons (pe_op op_fdivW (pv 1) (pv 2)) pa_nil)))))))),
    (ds_seq (ds_asg (de_cb o_abs (da_cons (de_var 0) da_nil)) (dg_name 2))
      (ds_seq (ds_asg (de_var 1) (dg_name 3))
      (ds_seq (ds_while (wc := (wB (wOp gGtI (wVar 3) (wC (.int 0))))) (wb := (wPar 2 3 (wCons (wVar 3) (wCons (wOp gModI (wCB gInt1 (wCons (wVar 2) wNil)) (wVar 3)) wNil)))) (dt_B (de_op o_gt (de_var 3) de_int)) (ds_par (i := 2) (j := 3) (da_cons (de_var 3) (da_cons (de_op o_mod (de_cb o_int1 (da_cons (de_var 2) da_nil)) (de_var 3)) da_nil))))
      (ds_ret (de_tup (da_cons (de_op o_fdivW (de_var 0) (de_var 2)) (da_cons (de_op o_fdivW (de_var 1) (de_var 2)) da_nil)))))))⟩
abbrev s__law_grains : Stmt := topS 49
theorem sc__law_grains : FnScope ["width", "other", "found"] ["width", "other"] (defScope s__law_grains) := ⟨rfl, rfl, rfl, by decide +kernel, rfl, by decide +kernel, by decide +kernel⟩
def l1__law_grains (K : PySem.W.Frag) : SW := wWhile (wOr (wB (wOp gGtI (wOp gModI (wCB gInt1 (wCons (wVar 2) wNil)) (wVar 0)) (wC (.int 0)))) (wB (wOp gGtI (wOp gModI (wCB gInt1 (wCons (wVar 2) wNil)) (wVar 1)) (wC (.int 0))))) (wAsg (wOp gAddI (wVar 2) (wC (.int 1))) (wName 2))
def w__law_grains (K : PySem.W.Frag) : SW := (wSq (wIfS (wOr (wB (wOp gEq (wVar 0) (wC (.int 0)))) (wB (wOp gEq (wVar 1) (wC (.int 0))))) (wRet (wCB gMax2 (wCons (wVar 0) (wCons (wVar 1) wNil)))) wNext)
  (wSq (wAsg (wCB gMax2 (wCons (wVar 0) (wCons (wVar 1) wNil))) (wName 2))
  (wSq (l1__law_grains K)
  (wRet (wVar 2)))))
def gnL (w o : Int) : Nat → Int → Option Int
  | 0, _ => none
  | n + 1, x => if 0 < x % w ∨ 0 < x % o then gnL w o n (x + 1) else some x
def gnF (w o : Int) : Option Int := if w = 0 ∨ o = 0 then some (mxI w o) else gnL w o 30 (mxI w o)
def fs__law_grains (K : PySem.W.Frag) : FS := fun cs q _ => ∃ (w o r : Int), cs = [.dat (.int w), .dat (.int o)] ∧ 0 ≤ w ∧ 0 ≤ o ∧ gnF w o = some r ∧ q (.int r) cs
theorem l1__law_grains_ok {w o x r : Int} {E : EndsD} (hw : 0 < w) (ho : 0 < o) (n : Nat) (h : gnL w o n x = some r) (hq : E.nx [.dat (.int w), .dat (.int o), .dat (.int r)]) : l1__law_grains K E [.dat (.int w), .dat (.int o), .dat (.int x)] := by
  unfold l1__law_grains wWhile
  refine ⟨fun m τ => ∃ x : Int, τ = [.dat (.int w), .dat (.int o), .dat (.int x)] ∧ gnL w o m x = some r, ⟨n, x, rfl, h⟩, ?_⟩
  rintro m τ ⟨x, rfl, h⟩
  cases m with
  | zero => cases h
  | succ m =>
    unfold gnL at h
    simp only [wPeekR, wTor, wSor, wXor, gNotInL, wAugVC, wRetOwnG, wRetSortFr, wExtend, gMaxT, gMinT, wAppendB, gRepT1, wFrzD, dcOf, wKeys, wDGet, wDIn, wDkNew, wDtNew, wDlNew, wLate, wPopAt, wIsiT, wRepOwn, gRepL, wAugSOwn, wListRgOwn, wZipK3, gRepT, wCountB, wIndexB, wIsiOwn, wPeekL, wCallFr, wStar, wSortSet, wTryAs, wIsE, offE, wListRg1, wListRg2, wRngDown, wZipK, gInL, gNotInT, wCatOwn, gIsB, gNotB, D.adr.injEq, Cont.pool.injEq, ixN31, ne_eq, List.map_cons, List.map_nil, wPoolOpen, wPoolClose, wPop0, wPopTo, wListOwn, wRemove, wRaise0, wRaise1, wAugOwn, wEnumL, wTru, wSlA, gCatA, gLtT, gLeT, wFrz, wChain3, wAttr, wMkF, wEnumT, wRevT, wDict0, wDict1, numD3, Nat.reduceAdd, atI0, atI1, atI2, atI3, atI4, ixN51, ixN52, ixN53, List.length_map, wNever, scal, V.int.injEq, V.str.injEq, V.bl.injEq, wSq, wNext, wBreak, wCont, wDrop, wRet, wRetN, wIfS, wAsg, wPar, wLstOwn, wAppend, wSetOwn, wIxOwn, wPeek, wRetOwn, wRetFr, wFor, wB, wNot, wAnd, wOr, wAndV, wOrV, wNotV, wIf, wChain, wNil, wCons, wCB, wTup, wLst, wNoPart, wPart, wSlT, wSlL, wSeq, wRng1, wRng2, wZip, wName, wNilT, wConsT, wTupT, wYes, wNeg, wVar, wC, wOp, wcNil, wcCons, wcOwn, wCall, wCallOwn, slots, cellsOf, OwnArgs, putBack, g2I, g2IC, gLen, gAbs, gGcd, gInt1, gTupleOf, gListOf, gIx, gCatT, gCat, gEq, gNe, gIsN, gNotN, scD, seqD_t, seqD_l, seqD_f, isNonD, List.nodup_cons, List.mem_cons, List.not_mem_nil, or_false, not_false_eq_true, Nat.reduceEqDiff, L3.Keeps, ends, wipeD, List.replicate, List.cons_append, List.nil_append, List.append_nil, List.getElem?_cons_zero, List.getElem?_cons_succ, List.set_cons_zero, List.set_cons_succ, List.getD_cons_zero, List.getD_cons_succ, List.length_cons, List.length_nil, List.nodup_nil, Option.some.injEq, Cell.dat.injEq, Cell.own.injEq, Cont.lst.injEq, D.bl.injEq, D.int.injEq, D.str.injEq, D.tup.injEq, D.lst.injEq, Arg.d.injEq, List.cons.injEq, exists_and_left, exists_and_right, exists_eq_left', exists_eq_left, exists_eq_right, exists_eq_right', exists_eq, exists_eq', and_true, true_and, and_assoc, and_self, exists_const, reduceCtorEq, web_wE, web_pE, webD_inj]
    refine ⟨hw, fun z => ⟨ho, fun y => ?_, fun y => ?_⟩, fun z => ⟨fun _ => ?_, fun f => f.elim⟩⟩
    · rw [if_pos (.inr (of_decide_eq_true y))] at h
      exact ⟨m, by omega, h⟩
    · rw [if_neg (fun q => q.elim (of_decide_eq_false z) (of_decide_eq_false y))] at h
      cases h
      exact hq
    · rw [if_pos (.inl (of_decide_eq_true z))] at h
      exact ⟨m, by omega, h⟩
theorem pure__law_grains : PureD 2 1 (fs__law_grains K) (w__law_grains K) := by
  rintro cs q e - ⟨w, o, r, rfl, w0, o0, h, hq⟩
  unfold gnF at h
  simp only [w__law_grains, gMax2, wPeekR, wTor, wSor, wXor, gNotInL, wAugVC, wRetOwnG, wRetSortFr, wExtend, gMaxT, gMinT, wAppendB, gRepT1, wFrzD, dcOf, wKeys, wDGet, wDIn, wDkNew, wDtNew, wDlNew, wLate, wPopAt, wIsiT, wRepOwn, gRepL, wAugSOwn, wListRgOwn, wZipK3, gRepT, wCountB, wIndexB, wIsiOwn, wPeekL, wCallFr, wStar, wSortSet, wTryAs, wIsE, offE, wListRg1, wListRg2, wRngDown, wZipK, gInL, gNotInT, wCatOwn, gIsB, gNotB, D.adr.injEq, Cont.pool.injEq, ixN31, ne_eq, List.map_cons, List.map_nil, wPoolOpen, wPoolClose, wPop0, wPopTo, wListOwn, wRemove, wRaise0, wRaise1, wAugOwn, wEnumL, wTru, wSlA, gCatA, gLtT, gLeT, wFrz, wChain3, wAttr, wMkF, wEnumT, wRevT, wDict0, wDict1, numD3, Nat.reduceAdd, atI0, atI1, atI2, atI3, atI4, ixN51, ixN52, ixN53, List.length_map, wNever, scal, V.int.injEq, V.str.injEq, V.bl.injEq, wSq, wNext, wBreak, wCont, wDrop, wRet, wRetN, wIfS, wAsg, wPar, wLstOwn, wAppend, wSetOwn, wIxOwn, wPeek, wRetOwn, wRetFr, wFor, wB, wNot, wAnd, wOr, wAndV, wOrV, wNotV, wIf, wChain, wNil, wCons, wCB, wTup, wLst, wNoPart, wPart, wSlT, wSlL, wSeq, wRng1, wRng2, wZip, wName, wNilT, wConsT, wTupT, wYes, wNeg, wVar, wC, wOp, wcNil, wcCons, wcOwn, wCall, wCallOwn, slots, cellsOf, OwnArgs, putBack, g2I, g2IC, gLen, gAbs, gGcd, gInt1, gTupleOf, gListOf, gIx, gCatT, gCat, gEq, gNe, gIsN, gNotN, scD, seqD_t, seqD_l, seqD_f, isNonD, List.nodup_cons, List.mem_cons, List.not_mem_nil, or_false, not_false_eq_true, Nat.reduceEqDiff, L3.Keeps, ends, wipeD, List.replicate, List.cons_append, List.nil_append, List.append_nil, List.getElem?_cons_zero, List.getElem?_cons_succ, List.set_cons_zero, List.set_cons_succ, List.getD_cons_zero, List.getD_cons_succ, List.length_cons, List.length_nil, List.nodup_nil, Option.some.injEq, Cell.dat.injEq, Cell.own.injEq, Cont.lst.injEq, D.bl.injEq, D.int.injEq, D.str.injEq, D.tup.injEq, D.lst.injEq, Arg.d.injEq, List.cons.injEq, exists_and_left, exists_and_right, exists_eq_left', exists_eq_left, exists_eq_right, exists_eq_right', exists_eq, exists_eq', and_true, true_and, and_assoc, and_self, exists_const, reduceCtorEq, web_wE, web_pE, webD_inj]
  refine ⟨fun z => ⟨fun y => ?_, fun y => ?_⟩, fun z => ⟨fun _ => ?_, fun f => f.elim⟩⟩
  · rw [if_pos (.inr (of_decide_eq_true y))] at h
    cases h
    exact hq
  · have z := of_decide_eq_false z
    have y := of_decide_eq_false y
    rw [if_neg (fun q => q.elim z y)] at h
    refine l1__law_grains_ok (by omega) (by omega) 30 h ?_
    simp only [wPeekR, wTor, wSor, wXor, gNotInL, wAugVC, wRetOwnG, wRetSortFr, wExtend, gMaxT, gMinT, wAppendB, gRepT1, wFrzD, dcOf, wKeys, wDGet, wDIn, wDkNew, wDtNew, wDlNew, wLate, wPopAt, wIsiT, wRepOwn, gRepL, wAugSOwn, wListRgOwn, wZipK3, gRepT, wCountB, wIndexB, wIsiOwn, wPeekL, wCallFr, wStar, wSortSet, wTryAs, wIsE, offE, wListRg1, wListRg2, wRngDown, wZipK, gInL, gNotInT, wCatOwn, gIsB, gNotB, D.adr.injEq, Cont.pool.injEq, ixN31, ne_eq, List.map_cons, List.map_nil, wPoolOpen, wPoolClose, wPop0, wPopTo, wListOwn, wRemove, wRaise0, wRaise1, wAugOwn, wEnumL, wTru, wSlA, gCatA, gLtT, gLeT, wFrz, wChain3, wAttr, wMkF, wEnumT, wRevT, wDict0, wDict1, numD3, Nat.reduceAdd, atI0, atI1, atI2, atI3, atI4, ixN51, ixN52, ixN53, List.length_map, wNever, scal, V.int.injEq, V.str.injEq, V.bl.injEq, wSq, wNext, wBreak, wCont, wDrop, wRet, wRetN, wIfS, wAsg, wPar, wLstOwn, wAppend, wSetOwn, wIxOwn, wPeek, wRetOwn, wRetFr, wFor, wB, wNot, wAnd, wOr, wAndV, wOrV, wNotV, wIf, wChain, wNil, wCons, wCB, wTup, wLst, wNoPart, wPart, wSlT, wSlL, wSeq, wRng1, wRng2, wZip, wName, wNilT, wConsT, wTupT, wYes, wNeg, wVar, wC, wOp, wcNil, wcCons, wcOwn, wCall, wCallOwn, slots, cellsOf, OwnArgs, putBack, g2I, g2IC, gLen, gAbs, gGcd, gInt1, gTupleOf, gListOf, gIx, gCatT, gCat, gEq, gNe, gIsN, gNotN, scD, seqD_t, seqD_l, seqD_f, isNonD, List.nodup_cons, List.mem_cons, List.not_mem_nil, or_false, not_false_eq_true, Nat.reduceEqDiff, L3.Keeps, ends, wipeD, List.replicate, List.cons_append, List.nil_append, List.append_nil, List.getElem?_cons_zero, List.getElem?_cons_succ, List.set_cons_zero, List.set_cons_succ, List.getD_cons_zero, List.getD_cons_succ, List.length_cons, List.length_nil, List.nodup_nil, Option.some.injEq, Cell.dat.injEq, Cell.own.injEq, Cont.lst.injEq, D.bl.injEq, D.int.injEq, D.str.injEq, D.tup.injEq, D.lst.injEq, Arg.d.injEq, List.cons.injEq, exists_and_left, exists_and_right, exists_eq_left', exists_eq_left, exists_eq_right, exists_eq_right', exists_eq, exists_eq', and_true, true_and, and_assoc, and_self, exists_const, reduceCtorEq, web_wE, web_pE, webD_inj]
    exact hq
  · rw [if_pos (.inl (of_decide_eq_true z))] at h
    cases h
    exact hq
theorem ok__law_grains (T : Txt K mg) : FnOk P w K mg base (L2.CX P w) 1 T.f__law_grains T.fd__law_grains ["width", "other"] (spOf K 2 (fs__law_grains K)) := by
  refine def_ok T.F__law_grains sc__law_grains (wb := w__law_grains K) pure__law_grains ?_
  intro cdv A outer s H E hr tk
  exact ⟨_, (pss_cons (ps_if (PW.pt (pw_or (pt_cmpR op_eq (pv 0) pe_int (nomark _)) (pw_or1 (pt_cmpR op_eq (pv 1) pe_int (nomark _)))))
        (pss_one (ps_ret (pe_callB (call_max2 rfl) (by rfl) T.z_max (by decide +kernel) (pa_cons (pv 0) (pa_cons (pv 1) pa_nil)))))
        pss_nil)
      (pss_cons (ps_set (i := 2) sc__law_grains.nd rfl (by first | exact Or.inl rfl | exact Or.inr rfl) (pe_callB (call_max2 rfl) (by rfl) T.z_max (by decide +kernel) (pa_cons (pv 0) (pa_cons (pv 1) pa_nil))))
      (pss_cons (ps_while (passes_of rfl) (PW.pt (pw_or (pt_cmpR op_gt (pe_op op_mod (pe_callTy call_int1 (by rfl) T.z_int (by decide +kernel) (pa_cons (pv 2) pa_nil)) (pv 0)) pe_int (nomark _)) (pw_or1 (pt_cmpR op_gt (pe_op op_mod (pe_callTy call_int1 (by rfl) T.z_int (by decide +kernel) (pa_cons (pv 2) pa_nil)) (pv 1)) pe_int (nomark _)))))
        (pss_one (ps_set (i := 2) sc__law_grains.nd rfl (by first | exact Or.inl rfl | exact Or.inr rfl) (pe_op op_add (pv 2) pe_int))))
      (pss_one (ps_ret (pv 2)))))),
    (ds_seq (ds_if (dt_or (dt_B (de_op o_eq (de_var 0) de_int)) (dt_B (de_op o_eq (de_var 1) de_int))) (ds_ret (de_cb o_max2 (da_cons (de_var 0) (da_cons (de_var 1) da_nil)))) ds_nil)
      (ds_seq (ds_asg (de_cb o_max2 (da_cons (de_var 0) (da_cons (de_var 1) da_nil))) (dg_name 2))
      (ds_seq (ds_while (wc := (wOr (wB (wOp gGtI (wOp gModI (wCB gInt1 (wCons (wVar 2) wNil)) (wVar 0)) (wC (.int 0)))) (wB (wOp gGtI (wOp gModI (wCB gInt1 (wCons (wVar 2) wNil)) (wVar 1)) (wC (.int 0)))))) (wb := (wAsg (wOp gAddI (wVar 2) (wC (.int 1))) (wName 2))) (dt_or (dt_B (de_op o_gt (de_op o_mod (de_cb o_int1 (da_cons (de_var 2) da_nil)) (de_var 0)) de_int)) (dt_B (de_op o_gt (de_op o_mod (de_cb o_int1 (da_cons (de_var 2) da_nil)) (de_var 1)) de_int))) (ds_asg (de_op o_add (de_var 2) de_int) (dg_name 2)))
      (ds_ret (de_var 2)))))⟩
abbrev s__law_two_right : Stmt := topS 50
theorem sc__law_two_right : FnScope ["tape", "width", "other", "many", "step", "grains", "tops", "room"] ["tape"] (defScope s__law_two_right) := ⟨rfl, rfl, rfl, by decide +kernel, rfl, by decide +kernel, by decide +kernel⟩
def w__law_two_right (K : PySem.W.Frag) (Z : CT) : SW := (wSq (wAsg (wOp gAddI (wC (.int 1)) (wCall 2 (fs__law_pick K) (wcOwn 0 (wcCons (wC (.int 4)) wcNil)))) (wName 1))
  (wSq (wAsg (wCall 2 (fs__law_pick K) (wcOwn 0 (wcCons (wC (.int 5)) wcNil))) (wName 2))
  (wSq (wAsg (wOp gAddI (wC (.int 1)) (wCall 2 (fs__law_pick K) (wcOwn 0 (wcCons (wC (.int 3)) wcNil)))) (wName 3))
  (wSq (wAsg (wCall 2 (fs__law_lowest K) (wcCons (wOp gAddI (wC (.int 1)) (wCall 2 (fs__law_pick K) (wcOwn 0 (wcCons (wC (.int 9)) wcNil)))) (wcCons (wOp gAddI (wC (.int 1)) (wCall 2 (fs__law_pick K) (wcOwn 0 (wcCons (wC (.int 3)) wcNil)))) wcNil))) (wName 4))
  (wSq (wAsg (wCall 2 (fs__law_grains K) (wcCons (wVar 1) (wcCons (wVar 2) wcNil))) (wName 5))
  (wSq (wAsg (wNeg (wOp gDivW (wOp gMulA (wNeg (wOp gIx (wVar 4) (wC (.int 0)))) (wVar 5)) (wOp gIx (wVar 4) (wC (.int 1))))) (wName 6))
  (wSq (wAsg (wOp gDivW (wOp gMulA (wVar 3) (wVar 5)) (wVar 1)) (wName 7))
  (wSq (wIfS (wB (wOp gGtI (wVar 2) (wC (.int 0)))) (wAsg (wOp gAddI (wVar 7) (wOp gDivW (wOp gMulA (wVar 3) (wVar 5)) (wVar 2))) (wName 7)) wNext)
  (wRet (wOp gEqD (wCall 1 (fs_calm_web K Z) (wcCons (wMkI Z.C_Web 2 (fs_Web__init__ K Z) (wCons (wTup (wCons (wVar 1) (wCons (wVar 2) wNil))) (wCons (wOp gRepT1 (wTup (wCons (wTup (wCons (wC (.int 0)) (wCons (wC (.int 1)) (wCons (wTup (wCons (wVar 4) wNil)) wNil)))) wNil)) (wVar 3)) wNil))) wcNil)) (wOp gLtI (wVar 7) (wOp gMulA (wC (.int 2)) (wVar 6)))))))))))))
def nfT (t b : Int) : Th := (t / ((Nat.gcd t.natAbs b.natAbs : Nat) : Int), b / ((Nat.gcd t.natAbs b.natAbs : Nat) : Int))
theorem nf_T (t b : Int) : nf t b = thD (nfT t b) := rfl
/-- is a web of two vessels calm as it should be -/
def twoF (w o : Int) (many : Nat) (s : Th) : Bool :=
  match gnF w o with
  | none => false
  | some gr => calmF [w, o] (List.replicate many (0, 1, [s])) == some (decide ((if 0 < o then (many : Int) * gr / w + (many : Int) * gr / o else (many : Int) * gr / w) < 2 * -(-s.1 * gr / s.2)))
theorem two_all : ((List.range 4).all fun w => (List.range 5).all fun o => (List.range 3).all fun m => (List.range 9).all fun t => (List.range 3).all fun b => twoF ((w : Int) + 1) (o : Int) (m + 1) (nfT ((t : Int) + 1) ((b : Int) + 1)) && decide (0 < (nfT ((t : Int) + 1) ((b : Int) + 1)).2) && decide ((nfT ((t : Int) + 1) ((b : Int) + 1)).2 ≤ 3) && decide (0 ≤ (nfT ((t : Int) + 1) ((b : Int) + 1)).1) && decide ((nfT ((t : Int) + 1) ((b : Int) + 1)).1 ≤ 9)) = true := by decide +kernel
theorem two_ok {w o m t b : Int} (w0 : 0 ≤ w) (w1 : w < 4) (o0 : 0 ≤ o) (o1 : o < 5) (m0 : 0 ≤ m) (m1 : m < 3) (t0 : 0 ≤ t) (t1 : t < 9) (b0 : 0 ≤ b) (b1 : b < 3) : twoF (1 + w) o (1 + m).toNat (nfT (1 + t) (1 + b)) = true ∧ 0 < (nfT (1 + t) (1 + b)).2 ∧ (nfT (1 + t) (1 + b)).2 ≤ 3 ∧ 0 ≤ (nfT (1 + t) (1 + b)).1 ∧ (nfT (1 + t) (1 + b)).1 ≤ 9 := by
  have h := two_all
  simp only [List.all_eq_true, List.mem_range, Bool.and_eq_true, decide_eq_true_eq] at h
  have k := h w.toNat (by omega) o.toNat (by omega) m.toNat (by omega) t.toNat (by omega) b.toNat (by omega)
  have e : ∀ x : Int, 0 ≤ x → ((x.toNat : Nat) : Int) + 1 = 1 + x := fun x hx => by omega
  have em : (1 + m).toNat = m.toNat + 1 := by omega
  rw [e w w0, e t t0, e b b0, Int.toNat_of_nonneg o0] at k
  rw [em]
  exact ⟨k.1.1.1.1, k.1.1.1.2, k.1.1.2, k.1.2, k.2⟩
def fs__law_two_right (K : PySem.W.Frag) (Z : CT) : FS := fun cs q _ => ∃ (p : Addr) (c : Cont), cs = [.own p c] ∧ PoolC c ∧ ∀ c' : Cont, PoolC c' → q (.bl true) [.own p c']
theorem flat_rep {α : Type} (x : α) : ∀ n, (List.replicate n [x]).flatten = List.replicate n x
  | 0 => rfl
  | n + 1 => by
    rw [List.replicate_succ, List.flatten_cons, flat_rep x n, List.replicate_succ]
    rfl
theorem eq_bl {a b : Bool} {q : D → Prop} (hq : q (.bl (a == b))) : gEqD (.bl a) (.bl b) q := by
  refine ⟨.bool a, .bool b, rfl, rfl, by cases a <;> decide, by cases b <;> decide, ?_⟩
  have e : PyData.eqv (.bool a) (.bool b) = (a == b) := by cases a <;> cases b <;> rfl
  rw [e]
  exact hq
theorem pure__law_two_right {Z : CT} : PureD 1 7 (fs__law_two_right K Z) (w__law_two_right K Z) := by
  rintro cs q e - ⟨p, c, rfl, hc, hq⟩
  simp only [w__law_two_right, fs__law_pick, fs__law_lowest, fs__law_grains, fs_calm_web, wMkI, fs_Web__init__, flat_rep, wPeekR, wTor, wSor, wXor, gNotInL, wAugVC, wRetOwnG, wRetSortFr, wExtend, gMaxT, gMinT, wAppendB, gRepT1, wFrzD, dcOf, wKeys, wDGet, wDIn, wDkNew, wDtNew, wDlNew, wLate, wPopAt, wIsiT, wRepOwn, gRepL, wAugSOwn, wListRgOwn, wZipK3, gRepT, wCountB, wIndexB, wIsiOwn, wPeekL, wCallFr, wStar, wSortSet, wTryAs, wIsE, offE, wListRg1, wListRg2, wRngDown, wZipK, gInL, gNotInT, wCatOwn, gIsB, gNotB, D.adr.injEq, Cont.pool.injEq, ixN31, ne_eq, List.map_cons, List.map_nil, wPoolOpen, wPoolClose, wPop0, wPopTo, wListOwn, wRemove, wRaise0, wRaise1, wAugOwn, wEnumL, wTru, wSlA, gCatA, gLtT, gLeT, wFrz, wChain3, wAttr, wMkF, wEnumT, wRevT, wDict0, wDict1, numD3, Nat.reduceAdd, atI0, atI1, atI2, atI3, atI4, ixN51, ixN52, ixN53, List.length_map, wNever, scal, V.int.injEq, V.str.injEq, V.bl.injEq, wSq, wNext, wBreak, wCont, wDrop, wRet, wRetN, wIfS, wAsg, wPar, wLstOwn, wAppend, wSetOwn, wIxOwn, wPeek, wRetOwn, wRetFr, wFor, wB, wNot, wAnd, wOr, wAndV, wOrV, wNotV, wIf, wChain, wNil, wCons, wCB, wTup, wLst, wNoPart, wPart, wSlT, wSlL, wSeq, wRng1, wRng2, wZip, wName, wNilT, wConsT, wTupT, wYes, wNeg, wVar, wC, wOp, wcNil, wcCons, wcOwn, wCall, wCallOwn, slots, cellsOf, OwnArgs, putBack, g2I, g2IC, gLen, gAbs, gGcd, gInt1, gTupleOf, gListOf, gIx, gCatT, gCat, gEq, gNe, gIsN, gNotN, scD, seqD_t, seqD_l, seqD_f, isNonD, List.nodup_cons, List.mem_cons, List.not_mem_nil, or_false, not_false_eq_true, Nat.reduceEqDiff, L3.Keeps, ends, wipeD, List.replicate, List.cons_append, List.nil_append, List.append_nil, List.getElem?_cons_zero, List.getElem?_cons_succ, List.set_cons_zero, List.set_cons_succ, List.getD_cons_zero, List.getD_cons_succ, List.length_cons, List.length_nil, List.nodup_nil, Option.some.injEq, Cell.dat.injEq, Cell.own.injEq, Cont.lst.injEq, D.bl.injEq, D.int.injEq, D.str.injEq, D.tup.injEq, D.lst.injEq, Arg.d.injEq, List.cons.injEq, exists_and_left, exists_and_right, exists_eq_left', exists_eq_left, exists_eq_right, exists_eq_right', exists_eq, exists_eq', and_true, true_and, and_assoc, and_self, exists_const, reduceCtorEq, web_wE, web_pE, webD_inj]
  refine ⟨hc, by decide, by decide, fun c w hc w0 w1 => ⟨hc, by decide, by decide, fun c o hc o0 o1 => ⟨hc, by decide, by decide, fun c m hc m0 m1 => ⟨hc, by decide, by decide, fun c t hc t0 t1 => ⟨hc, by decide, by decide, fun c b hc b0 b1 => ?_⟩⟩⟩⟩⟩
  obtain ⟨h2, h3, h4, h5, h6⟩ := two_ok w0 w1 o0 o1 m0 m1 t0 t1 b0 b1
  unfold twoF at h2
  cases hg : gnF (1 + w) o with
  | none => rw [hg] at h2; cases h2
  | some gr =>
    rw [hg] at h2
    have h2 := eq_of_beq h2
    rw [nf_T]
    generalize nfT (1 + t) (1 + b) = s at *
    obtain ⟨hw, _⟩ := calmF_ok h2
    have hwo := web_okd (K := K) hw.w
    have wb := web_ok hw.w
    have wo : ∀ part, badWeb (.tup (iD [1 + w, o])) (.tup ((List.replicate (1 + m).toNat ((0, 1, [s]) : Pt)).map ptD)) = some part → False := fun part z => by
      rw [wb] at z
      cases z
    have ep : List.replicate (1 + m).toNat (D.tup [.int 0, .int 1, .tup [thD s]]) = (List.replicate (1 + m).toNat ((0, 1, [s]) : Pt)).map ptD := by rw [List.map_replicate]; rfl
    have er : (((1 + m).toNat : Nat) : Int) = 1 + m := by omega
    rw [er] at h2
    rw [ep]
    refine ⟨by omega, Nat.lt_of_lt_of_le (show (1 + b).natAbs < 2 ^ 8 by omega) (pow_le (by decide)), by omega, o0, gr, rfl, [.int s.1, .int s.2], rfl, _, rfl, s.1, rfl, cmul_l (by omega) (by omega), [.int s.1, .int s.2], rfl, _, rfl, s.2, rfl, divw h3 (by omega), cmul_l (by omega) (by omega), divw (by omega) (by omega), fun z => ?_, fun z => ?_⟩
    · have z := of_decide_eq_true z
      rw [if_pos z] at h2
      refine ⟨cmul_l (by omega) (by omega), divw z (by omega), ?_⟩
      refine ⟨by decide, by decide, by decide, by decide, by omega, by omega, by decide, fun _ dx => ⟨dx, rfl, hwo.1, hwo.2, fun part q => (wo part q).elim, fun _ => ⟨_, rfl, [1 + w, o], _, rfl, _, h2, cmul_l (by decide) (by decide), eq_bl ?_⟩⟩⟩
      rw [beq_self_eq_true]
      exact hq c hc
    · rw [if_neg (of_decide_eq_false z)] at h2
      refine ⟨by decide, by decide, by decide, by decide, by omega, by omega, by decide, fun _ dx => ⟨dx, rfl, hwo.1, hwo.2, fun part q => (wo part q).elim, fun _ => ⟨_, rfl, [1 + w, o], _, rfl, _, h2, cmul_l (by decide) (by decide), eq_bl ?_⟩⟩⟩
      rw [beq_self_eq_true]
      exact hq c hc
theorem ok__law_two_right (T : Txt K mg) : FnOk P w K mg base (L2.CX P w) 9 T.f__law_two_right T.fd__law_two_right ["tape"] (spOf K 1 (fs__law_two_right K T.Z)) := by
  refine def_ok T.F__law_two_right sc__law_two_right (wb := w__law_two_right K T.Z) pure__law_two_right ?_
  intro cdv A outer s H E hr tk
  exact ⟨_, (pss_cons (ps_set (i := 1) sc__law_two_right.nd rfl (by first | exact Or.inl rfl | exact Or.inr rfl) (pe_op op_add pe_int (pe_callS (ok__law_pick T) (hr.mono (by decide)) rfl T.g__law_pick T.k__law_pick T.b__law_pick (fun σ => passAt tk σ) (pa_cons (pv 0) (pa_cons pe_int pa_nil)))))
      (pss_cons (ps_set (i := 2) sc__law_two_right.nd rfl (by first | exact Or.inl rfl | exact Or.inr rfl) (pe_callS (ok__law_pick T) (hr.mono (by decide)) rfl T.g__law_pick T.k__law_pick T.b__law_pick (fun σ => passAt tk σ) (pa_cons (pv 0) (pa_cons pe_int pa_nil))))
      (pss_cons (ps_set (i := 3) sc__law_two_right.nd rfl (by first | exact Or.inl rfl | exact Or.inr rfl) (pe_op op_add pe_int (pe_callS (ok__law_pick T) (hr.mono (by decide)) rfl T.g__law_pick T.k__law_pick T.b__law_pick (fun σ => passAt tk σ) (pa_cons (pv 0) (pa_cons pe_int pa_nil)))))
      (pss_cons (ps_set (i := 4) sc__law_two_right.nd rfl (by first | exact Or.inl rfl | exact Or.inr rfl) (pe_callS (ok__law_lowest T) (hr.mono (by decide)) rfl T.g__law_lowest T.k__law_lowest T.b__law_lowest (fun σ => passAt tk σ) (pa_cons (pe_op op_add pe_int (pe_callS (ok__law_pick T) (hr.mono (by decide)) rfl T.g__law_pick T.k__law_pick T.b__law_pick (fun σ => passAt tk σ) (pa_cons (pv 0) (pa_cons pe_int pa_nil)))) (pa_cons (pe_op op_add pe_int (pe_callS (ok__law_pick T) (hr.mono (by decide)) rfl T.g__law_pick T.k__law_pick T.b__law_pick (fun σ => passAt tk σ) (pa_cons (pv 0) (pa_cons pe_int pa_nil)))) pa_nil))))
      (pss_cons (ps_set (i := 5) sc__law_two_right.nd rfl (by first | exact Or.inl rfl | exact Or.inr rfl) (pe_callS (ok__law_grains T) (hr.mono (by decide)) rfl T.g__law_grains T.k__law_grains T.b__law_grains (fun σ => passAt tk σ) (pa_cons (pv 1) (pa_cons (pv 2) pa_nil))))
      (pss_cons (ps_set (i := 6) sc__law_two_right.nd rfl (by first | exact Or.inl rfl | exact Or.inr rfl) (pe_un un_neg (pe_op op_fdivW (pe_op op_mulA (pe_un un_neg (pe_ix ix_seq (pv 4) pe_int (fun _ _ => rfl))) (pv 5)) (pe_ix ix_seq (pv 4) pe_int (fun _ _ => rfl)))))
      (pss_cons (ps_set (i := 7) sc__law_two_right.nd rfl (by first | exact Or.inl rfl | exact Or.inr rfl) (pe_op op_fdivW (pe_op op_mulA (pv 3) (pv 5)) (pv 1)))
      (pss_cons (ps_if (pt_cmpR op_gt (pv 2) pe_int (nomark _))
        (pss_one (ps_set (i := 7) sc__law_two_right.nd rfl (by first | exact Or.inl rfl | exact Or.inr rfl) (pe_op op_add (pv 7) (pe_op op_fdivW (pe_op op_mulA (pv 3) (pv 5)) (pv 2)))))
        pss_nil)
      (pss_one (ps_ret (pe_cmpR (op_eqD hr.units) (pe_callS (ok_calm_web T) (hr.mono (by decide)) rfl T.g_calm_web T.k_calm_web T.b_calm_web (fun σ => passAt tk σ) (pa_cons (pe_make T.cm_Web (ok_Web__init__ T) (hr.mono (by decide)) rfl T.gc_Web T.b_Web__init__ .nil (passF tk) (pa_cons (pe_tup (pa_cons (pv 1) (pa_cons (pv 2) pa_nil))) (pa_cons (pe_op (op_or op_repT op_repT1) (pe_tup (pa_cons (pe_tup (pa_cons pe_int (pa_cons pe_int (pa_cons (pe_tup (pa_cons (pv 4) pa_nil)) pa_nil)))) pa_nil)) (pv 3)) pa_nil))) pa_nil)) (pe_cmpR op_lt (pv 7) (pe_op op_mulA pe_int (pv 6)) (nomark _)) (nomark _)))))))))))),
    (ds_seq (ds_asg (de_op o_add de_int (de_call (n := 2) (fs := fs__law_pick K) (dac_own (j := 0) (dac_cons de_int dac_nil)))) (dg_name 1))
      (ds_seq (ds_asg (de_call (n := 2) (fs := fs__law_pick K) (dac_own (j := 0) (dac_cons de_int dac_nil))) (dg_name 2))
      (ds_seq (ds_asg (de_op o_add de_int (de_call (n := 2) (fs := fs__law_pick K) (dac_own (j := 0) (dac_cons de_int dac_nil)))) (dg_name 3))
      (ds_seq (ds_asg (de_call (n := 2) (fs := fs__law_lowest K) (dac_cons (de_op o_add de_int (de_call (n := 2) (fs := fs__law_pick K) (dac_own (j := 0) (dac_cons de_int dac_nil)))) (dac_cons (de_op o_add de_int (de_call (n := 2) (fs := fs__law_pick K) (dac_own (j := 0) (dac_cons de_int dac_nil)))) dac_nil))) (dg_name 4))
      (ds_seq (ds_asg (de_call (n := 2) (fs := fs__law_grains K) (dac_cons (de_var 1) (dac_cons (de_var 2) dac_nil))) (dg_name 5))
      (ds_seq (ds_asg (de_neg (de_op o_fdivW (de_op o_mulA (de_neg (de_op o_ix (de_var 4) de_int)) (de_var 5)) (de_op o_ix (de_var 4) de_int))) (dg_name 6))
      (ds_seq (ds_asg (de_op o_fdivW (de_op o_mulA (de_var 3) (de_var 5)) (de_var 1)) (dg_name 7))
      (ds_seq (ds_if (dt_B (de_op o_gt (de_var 2) de_int)) (ds_asg (de_op o_add (de_var 7) (de_op o_fdivW (de_op o_mulA (de_var 3) (de_var 5)) (de_var 2))) (dg_name 7)) ds_nil)
      (ds_ret (de_op o_eqD (de_call (n := 1) (fs := fs_calm_web K T.Z) (dac_cons (de_makeI (n := 2) (fs := fs_Web__init__ K T.Z) (da_cons (de_tup (da_cons (de_var 1) (da_cons (de_var 2) da_nil))) (da_cons (de_op o_repT1 (de_tup (da_cons (de_tup (da_cons de_int (da_cons de_int (da_cons (de_tup (da_cons (de_var 4) da_nil)) da_nil)))) da_nil)) (de_var 3)) da_nil))) dac_nil)) (de_op o_lt (de_var 7) (de_op o_mulA de_int (de_var 6)))))))))))))⟩
abbrev s_law : Stmt := topS 51
theorem sc_law : FnScope ["script", "tape", "many", "step", "star", "k", "turn", "steps", "row", "wide", "list_here", "due", "ring"] ["script"] (defScope s_law) := ⟨rfl, rfl, rfl, by decide +kernel, rfl, by decide +kernel, by decide +kernel⟩
def c1_law (K : PySem.W.Frag) (Z : CT) : EW := wLc (wRng1 (wCons (wVar 2) wNil)) (wName 5) wYes (wTup (wCons (wC (.int 0)) (wCons (wOp gAddI (wVar 5) (wC (.int 1))) (wCons (wTup (wCons (wTup (wCons (wVar 3) (wCons (wC (.int 1)) wNil))) wNil)) wNil)))) [5]
def l2_law (K : PySem.W.Frag) (Z : CT) : SW := wFor (wRng1 (wCons (wC (.int 4)) wNil)) (wName 6) (wIfS (wNot (wB (wCall 1 (fs__law_two_right K Z) (wcOwn 1 wcNil)))) (wRet (wC (.bl false))) wNext)
def c3_law (K : PySem.W.Frag) (Z : CT) : EW := wLc (wRng1 (wCons (wOp gSubI (wVar 8) (wC (.int 1))) wNil)) (wName 5) wYes (wTup (wCons (wVar 5) (wCons (wOp gAddI (wVar 5) (wC (.int 1))) (wCons (wVar 7) wNil)))) [5]
def l4_law (K : PySem.W.Frag) (Z : CT) : SW := wFor (wSeq (wLst (wCons (wTup (wCons (wVar 7) (wCons (wC (.bl false)) wNil))) (wCons (wTup (wCons (wVar 9) (wCons (wC (.bl true)) wNil))) wNil)))) (wTupT 2 (wConsT (wName 10) (wConsT (wName 11) wNilT))) (wSq (wAsg (wTup (wCons (wTup (wCons (wC (.int 0)) (wCons (wC (.int 1)) (wCons (wVar 10) wNil)))) (wCons (wTup (wCons (wC (.int 1)) (wCons (wC (.int 2)) (wCons (wVar 10) wNil)))) (wCons (wTup (wCons (wC (.int 2)) (wCons (wC (.int 3)) (wCons (wVar 10) wNil)))) (wCons (wTup (wCons (wC (.int 0)) (wCons (wC (.int 3)) (wCons (wVar 10) wNil)))) wNil))))) (wName 12))
  (wIfS (wB (wOp gNeD (wCall 1 (fs_calm_web K Z) (wcCons (wMkI Z.C_Web 2 (fs_Web__init__ K Z) (wCons (wOp gRepT1 (wTup (wCons (wC (.int 1)) wNil)) (wC (.int 4))) (wCons (wVar 12) wNil))) wcNil)) (wVar 11))) (wRet (wC (.bl false))) wNext))
def t10_law (K : PySem.W.Frag) (Z : CT) : SW := (wSq (l4_law K Z)
  (wRet (wC (.bl true))))
def t9_law (K : PySem.W.Frag) (Z : CT) : SW := (wSq (wAsg (wTup (wCons (wTup (wCons (wC (.int 3)) (wCons (wC (.int 1)) wNil))) (wCons (wTup (wCons (wC (.int 5)) (wCons (wC (.int 1)) wNil))) (wCons (wTup (wCons (wC (.int 7)) (wCons (wC (.int 1)) wNil))) wNil)))) (wName 9))
  (t10_law K Z))
def t8_law (K : PySem.W.Frag) (Z : CT) : SW := (wSq (wIfS (wB (wOp gNeD (wCall 1 (fs_calm_web K Z) (wcCons (wMkI Z.C_Web 2 (fs_Web__init__ K Z) (wCons (wOp gRepT1 (wTup (wCons (wC (.int 1)) wNil)) (wVar 8)) (wCons (wCB gTupleOf (wCons (c3_law K Z) wNil)) wNil))) wcNil)) (wOp gLtI (wVar 8) (wC (.int 5))))) (wRet (wC (.bl false))) wNext)
  (t9_law K Z))
def t6_law (K : PySem.W.Frag) (Z : CT) : SW := (wSq (wAsg (wTup (wCons (wTup (wCons (wC (.int 2)) (wCons (wC (.int 1)) wNil))) (wCons (wTup (wCons (wC (.int 4)) (wCons (wC (.int 1)) wNil))) (wCons (wTup (wCons (wC (.int 5)) (wCons (wC (.int 1)) wNil))) wNil)))) (wName 7))
  (wSq (wAsg (wOp gAddI (wC (.int 2)) (wCall 2 (fs__law_pick K) (wcOwn 1 (wcCons (wC (.int 4)) wcNil)))) (wName 8))
  (t8_law K Z)))
def t5_law (K : PySem.W.Frag) (Z : CT) : SW := (wSq (l2_law K Z)
  (t6_law K Z))
def t4_law (K : PySem.W.Frag) (Z : CT) : SW := (wSq (wIfS (wB (wOp gNeD (wCall 1 (fs_calm_web K Z) (wcCons (wVar 4) wcNil)) (wOp gLtI (wOp gAddI (wVar 2) (wC (.int 1))) (wOp gMulA (wC (.int 2)) (wVar 3))))) (wRet (wC (.bl false))) wNext)
  (t5_law K Z))
def w_law (K : PySem.W.Frag) (Z : CT) : SW := (wSq (wCallOwn 1 1 (fs__law_tape K) (wcCons (wVar 0) wcNil))
  (wSq (wAsg (wOp gAddI (wC (.int 1)) (wCall 2 (fs__law_pick K) (wcOwn 1 (wcCons (wC (.int 6)) wcNil)))) (wName 2))
  (wSq (wAsg (wOp gAddI (wC (.int 1)) (wCall 2 (fs__law_pick K) (wcOwn 1 (wcCons (wC (.int 5)) wcNil)))) (wName 3))
  (wSq (wAsg (wMkI Z.C_Web 2 (fs_Web__init__ K Z) (wCons (wOp gRepT1 (wTup (wCons (wC (.int 1)) wNil)) (wOp gAddI (wVar 2) (wC (.int 1)))) (wCons (wCB gTupleOf (wCons (c1_law K Z) wNil)) wNil))) (wName 4))
  (t4_law K Z)))))
structure LawF (K : PySem.W.Frag) (Z : CT) : Prop where
  t : True
def fs_law (K : PySem.W.Frag) (Z : CT) : FS := fun cs q _ => ∃ (ns : List Int), cs = [.dat (.fl (ns.map D.int))] ∧ ns.length ≤ 1000 ∧ LawF K Z ∧ q (.bl true) cs
def steps3 : List Th := [(2, 1), (4, 1), (5, 1)]
def wide3 : List Th := [(3, 1), (5, 1), (7, 1)]
def rowP (n : Nat) : List Pt := (List.range (n - 1)).map fun k => (k, k + 1, steps3)
def ringP (l : List Th) : List Pt := [(0, 1, l), (1, 2, l), (2, 3, l), (0, 3, l)]
def starP (n : Nat) (s : Int) : List Pt := (List.range n).map fun k => (0, k + 1, [(s, 1)])
theorem star_all : ((List.range 6).all fun m => (List.range 5).all fun s => calmF (List.replicate (m + 2) 1) (starP (m + 1) ((s : Int) + 1)) == some (decide ((m : Int) + 2 < 2 * ((s : Int) + 1)))) = true := by decide +kernel
theorem row_all : ((List.range 4).all fun n => calmF (List.replicate (n + 2) 1) (rowP (n + 2)) == some (decide ((n : Int) + 2 < 5))) = true := by decide +kernel
theorem ring_1 : calmF (List.replicate 4 1) (ringP steps3) = some false := by decide +kernel
theorem ring_2 : calmF (List.replicate 4 1) (ringP wide3) = some true := by decide +kernel
theorem star_ok {m s : Nat} (m1 : m < 6) (s1 : s < 5) : calmF (List.replicate (m + 2) 1) (starP (m + 1) ((s : Int) + 1)) = some (decide ((m : Int) + 2 < 2 * ((s : Int) + 1))) := by
  have h := star_all
  simp only [List.all_eq_true, List.mem_range] at h
  exact eq_of_beq (h m m1 s s1)
theorem row_ok {n : Nat} (n1 : n < 4) : calmF (List.replicate (n + 2) 1) (rowP (n + 2)) = some (decide ((n : Int) + 2 < 5)) := by
  have h := row_all
  simp only [List.all_eq_true, List.mem_range] at h
  exact eq_of_beq (h n n1)
theorem ne_bl {a b : Bool} {q : D → Prop} (hq : q (.bl (a != b))) : gNeD (.bl a) (.bl b) q := by
  refine ⟨.bool a, .bool b, rfl, rfl, by cases a <;> decide, by cases b <;> decide, ?_⟩
  have e : (!PyData.eqv (.bool a) (.bool b)) = (a != b) := by cases a <;> cases b <;> rfl
  rw [e]
  exact hq
theorem wo_of {us : List Int} {ps : List Pt} {b : Bool} (h : calmF us ps = some b) : WebV (iD us) (ps.map ptD) ∧ ∀ part, badWeb (.tup (iD us)) (.tup (ps.map ptD)) = some part → False := by
  obtain ⟨hw, _⟩ := calmF_ok h
  refine ⟨hw.w, fun part z => ?_⟩
  rw [web_ok hw.w] at z
  cases z
theorem ones {n : Nat} : List.replicate n (D.int 1) = iD (List.replicate n 1) := by
  unfold iD
  rw [List.map_replicate]
section
variable {Z : CT} {c0 c1 c2 c3 c4 c5 c6 c7 c8 c9 c10 c11 c12 : Cell} {E : EndsD} {p : Addr} {c : Cont}
theorem l4_law_ok (hn : ∀ c10 c11 c12, E.nx [c0, c1, c2, c3, c4, c5, c6, .dat (.tup (steps3.map thD)), c8, .dat (.tup (wide3.map thD)), c10, c11, c12]) : l4_law K Z E [c0, c1, c2, c3, c4, c5, c6, .dat (.tup (steps3.map thD)), c8, .dat (.tup (wide3.map thD)), c10, c11, c12] := by
  unfold l4_law wFor
  simp only [seqD_l, flat_rep, ones, wPeekR, wTor, wSor, wXor, gNotInL, wAugVC, wRetOwnG, wRetSortFr, wExtend, gMaxT, gMinT, wAppendB, gRepT1, wFrzD, dcOf, wKeys, wDGet, wDIn, wDkNew, wDtNew, wDlNew, wLate, wPopAt, wIsiT, wRepOwn, gRepL, wAugSOwn, wListRgOwn, wZipK3, gRepT, wCountB, wIndexB, wIsiOwn, wPeekL, wCallFr, wStar, wSortSet, wTryAs, wIsE, offE, wListRg1, wListRg2, wRngDown, wZipK, gInL, gNotInT, wCatOwn, gIsB, gNotB, D.adr.injEq, Cont.pool.injEq, ixN31, ne_eq, List.map_cons, List.map_nil, wPoolOpen, wPoolClose, wPop0, wPopTo, wListOwn, wRemove, wRaise0, wRaise1, wAugOwn, wEnumL, wTru, wSlA, gCatA, gLtT, gLeT, wFrz, wChain3, wAttr, wMkF, wEnumT, wRevT, wDict0, wDict1, numD3, Nat.reduceAdd, atI0, atI1, atI2, atI3, atI4, ixN51, ixN52, ixN53, List.length_map, wNever, scal, V.int.injEq, V.str.injEq, V.bl.injEq, wSq, wNext, wBreak, wCont, wDrop, wRet, wRetN, wIfS, wAsg, wPar, wLstOwn, wAppend, wSetOwn, wIxOwn, wPeek, wRetOwn, wRetFr, wFor, wB, wNot, wAnd, wOr, wAndV, wOrV, wNotV, wIf, wChain, wNil, wCons, wCB, wTup, wLst, wNoPart, wPart, wSlT, wSlL, wSeq, wRng1, wRng2, wZip, wName, wNilT, wConsT, wTupT, wYes, wNeg, wVar, wC, wOp, wcNil, wcCons, wcOwn, wCall, wCallOwn, slots, cellsOf, OwnArgs, putBack, g2I, g2IC, gLen, gAbs, gGcd, gInt1, gTupleOf, gListOf, gIx, gCatT, gCat, gEq, gNe, gIsN, gNotN, scD, seqD_t, seqD_l, seqD_f, isNonD, List.nodup_cons, List.mem_cons, List.not_mem_nil, or_false, not_false_eq_true, Nat.reduceEqDiff, L3.Keeps, ends, wipeD, List.replicate, List.cons_append, List.nil_append, List.append_nil, List.getElem?_cons_zero, List.getElem?_cons_succ, List.set_cons_zero, List.set_cons_succ, List.getD_cons_zero, List.getD_cons_succ, List.length_cons, List.length_nil, List.nodup_nil, Option.some.injEq, Cell.dat.injEq, Cell.own.injEq, Cont.lst.injEq, D.bl.injEq, D.int.injEq, D.str.injEq, D.tup.injEq, D.lst.injEq, Arg.d.injEq, List.cons.injEq, exists_and_left, exists_and_right, exists_eq_left', exists_eq_left, exists_eq_right, exists_eq_right', exists_eq, exists_eq', and_true, true_and, and_assoc, and_self, exists_const, reduceCtorEq, web_wE, web_pE, webD_inj]
  refine ⟨by decide, by decide, by decide, fun i τ => ∃ c10 c11 c12, τ = [c0, c1, c2, c3, c4, c5, c6, .dat (.tup (steps3.map thD)), c8, .dat (.tup (wide3.map thD)), c10, c11, c12], ⟨_, _, _, rfl⟩, ?_, ?_⟩
  · rintro i d τ2 hi ⟨c10, c11, c12, rfl⟩
    have hd : ∃ (l : List Th) (b : Bool), d = .tup [.tup (l.map thD), .bl b] ∧ calmF (List.replicate 4 1) (ringP l) = some b := by
      rcases i with _ | _ | i
      · cases hi; exact ⟨steps3, false, rfl, ring_1⟩
      · cases hi; exact ⟨wide3, true, rfl, ring_2⟩
      · simp at hi
    obtain ⟨l, b, rfl, hb⟩ := hd
    obtain ⟨hwv, wo⟩ := wo_of hb
    have hwo := web_okd (K := K) hwv
    have hwo' : OkD K (.tup (iD (List.replicate 4 1))) ∧ OkD K (.tup ((ringP l).map ptD)) := hwo
    simp only [fs_calm_web, wMkI, fs_Web__init__, flat_rep, ones, wPeekR, wTor, wSor, wXor, gNotInL, wAugVC, wRetOwnG, wRetSortFr, wExtend, gMaxT, gMinT, wAppendB, gRepT1, wFrzD, dcOf, wKeys, wDGet, wDIn, wDkNew, wDtNew, wDlNew, wLate, wPopAt, wIsiT, wRepOwn, gRepL, wAugSOwn, wListRgOwn, wZipK3, gRepT, wCountB, wIndexB, wIsiOwn, wPeekL, wCallFr, wStar, wSortSet, wTryAs, wIsE, offE, wListRg1, wListRg2, wRngDown, wZipK, gInL, gNotInT, wCatOwn, gIsB, gNotB, D.adr.injEq, Cont.pool.injEq, ixN31, ne_eq, List.map_cons, List.map_nil, wPoolOpen, wPoolClose, wPop0, wPopTo, wListOwn, wRemove, wRaise0, wRaise1, wAugOwn, wEnumL, wTru, wSlA, gCatA, gLtT, gLeT, wFrz, wChain3, wAttr, wMkF, wEnumT, wRevT, wDict0, wDict1, numD3, Nat.reduceAdd, atI0, atI1, atI2, atI3, atI4, ixN51, ixN52, ixN53, List.length_map, wNever, scal, V.int.injEq, V.str.injEq, V.bl.injEq, wSq, wNext, wBreak, wCont, wDrop, wRet, wRetN, wIfS, wAsg, wPar, wLstOwn, wAppend, wSetOwn, wIxOwn, wPeek, wRetOwn, wRetFr, wFor, wB, wNot, wAnd, wOr, wAndV, wOrV, wNotV, wIf, wChain, wNil, wCons, wCB, wTup, wLst, wNoPart, wPart, wSlT, wSlL, wSeq, wRng1, wRng2, wZip, wName, wNilT, wConsT, wTupT, wYes, wNeg, wVar, wC, wOp, wcNil, wcCons, wcOwn, wCall, wCallOwn, slots, cellsOf, OwnArgs, putBack, g2I, g2IC, gLen, gAbs, gGcd, gInt1, gTupleOf, gListOf, gIx, gCatT, gCat, gEq, gNe, gIsN, gNotN, scD, seqD_t, seqD_l, seqD_f, isNonD, List.nodup_cons, List.mem_cons, List.not_mem_nil, or_false, not_false_eq_true, Nat.reduceEqDiff, L3.Keeps, ends, wipeD, List.replicate, List.cons_append, List.nil_append, List.append_nil, List.getElem?_cons_zero, List.getElem?_cons_succ, List.set_cons_zero, List.set_cons_succ, List.getD_cons_zero, List.getD_cons_succ, List.length_cons, List.length_nil, List.nodup_nil, Option.some.injEq, Cell.dat.injEq, Cell.own.injEq, Cont.lst.injEq, D.bl.injEq, D.int.injEq, D.str.injEq, D.tup.injEq, D.lst.injEq, Arg.d.injEq, List.cons.injEq, exists_and_left, exists_and_right, exists_eq_left', exists_eq_left, exists_eq_right, exists_eq_right', exists_eq, exists_eq', and_true, true_and, and_assoc, and_self, exists_const, reduceCtorEq, web_wE, web_pE, webD_inj]
    refine ⟨by decide, by decide, by decide, by decide, by decide, by decide, by decide, by decide, by decide, fun _ dx => ⟨dx, rfl, hwo'.1, hwo'.2, fun part q => (wo part q).elim, fun _ => ⟨_, rfl, List.replicate 4 1, ringP l, rfl, b, hb, ne_bl ?_⟩⟩⟩
    rw [bne_self_eq_false]
    exact ⟨_, rfl, fun z => (nomatch z), fun _ => trivial⟩
  · rintro τ2 ⟨c10, c11, c12, rfl⟩
    exact hn _ _ _
theorem l2_law_ok (hc : PoolC c) (hn : ∀ c c6, PoolC c → E.nx [c0, .own p c, c2, c3, c4, c5, c6, c7, c8, c9, c10, c11, c12]) : l2_law K Z E [c0, .own p c, c2, c3, c4, c5, c6, c7, c8, c9, c10, c11, c12] := by
  unfold l2_law wFor
  refine ⟨_, rfl, by decide, by decide, fun i τ => ∃ (c : Cont) (c6 : Cell), τ = [c0, .own p c, c2, c3, c4, c5, c6, c7, c8, c9, c10, c11, c12] ∧ PoolC c, ⟨_, _, rfl, hc⟩, ?_, ?_⟩
  · rintro i d τ2 hi ⟨c, c6, rfl, hc⟩
    simp only [fs__law_two_right, wPeekR, wTor, wSor, wXor, gNotInL, wAugVC, wRetOwnG, wRetSortFr, wExtend, gMaxT, gMinT, wAppendB, gRepT1, wFrzD, dcOf, wKeys, wDGet, wDIn, wDkNew, wDtNew, wDlNew, wLate, wPopAt, wIsiT, wRepOwn, gRepL, wAugSOwn, wListRgOwn, wZipK3, gRepT, wCountB, wIndexB, wIsiOwn, wPeekL, wCallFr, wStar, wSortSet, wTryAs, wIsE, offE, wListRg1, wListRg2, wRngDown, wZipK, gInL, gNotInT, wCatOwn, gIsB, gNotB, D.adr.injEq, Cont.pool.injEq, ixN31, ne_eq, List.map_cons, List.map_nil, wPoolOpen, wPoolClose, wPop0, wPopTo, wListOwn, wRemove, wRaise0, wRaise1, wAugOwn, wEnumL, wTru, wSlA, gCatA, gLtT, gLeT, wFrz, wChain3, wAttr, wMkF, wEnumT, wRevT, wDict0, wDict1, numD3, Nat.reduceAdd, atI0, atI1, atI2, atI3, atI4, ixN51, ixN52, ixN53, List.length_map, wNever, scal, V.int.injEq, V.str.injEq, V.bl.injEq, wSq, wNext, wBreak, wCont, wDrop, wRet, wRetN, wIfS, wAsg, wPar, wLstOwn, wAppend, wSetOwn, wIxOwn, wPeek, wRetOwn, wRetFr, wFor, wB, wNot, wAnd, wOr, wAndV, wOrV, wNotV, wIf, wChain, wNil, wCons, wCB, wTup, wLst, wNoPart, wPart, wSlT, wSlL, wSeq, wRng1, wRng2, wZip, wName, wNilT, wConsT, wTupT, wYes, wNeg, wVar, wC, wOp, wcNil, wcCons, wcOwn, wCall, wCallOwn, slots, cellsOf, OwnArgs, putBack, g2I, g2IC, gLen, gAbs, gGcd, gInt1, gTupleOf, gListOf, gIx, gCatT, gCat, gEq, gNe, gIsN, gNotN, scD, seqD_t, seqD_l, seqD_f, isNonD, List.nodup_cons, List.mem_cons, List.not_mem_nil, or_false, not_false_eq_true, Nat.reduceEqDiff, L3.Keeps, ends, wipeD, List.replicate, List.cons_append, List.nil_append, List.append_nil, List.getElem?_cons_zero, List.getElem?_cons_succ, List.set_cons_zero, List.set_cons_succ, List.getD_cons_zero, List.getD_cons_succ, List.length_cons, List.length_nil, List.nodup_nil, Option.some.injEq, Cell.dat.injEq, Cell.own.injEq, Cont.lst.injEq, D.bl.injEq, D.int.injEq, D.str.injEq, D.tup.injEq, D.lst.injEq, Arg.d.injEq, List.cons.injEq, exists_and_left, exists_and_right, exists_eq_left', exists_eq_left, exists_eq_right, exists_eq_right', exists_eq, exists_eq', and_true, true_and, and_assoc, and_self, exists_const, reduceCtorEq, web_wE, web_pE, webD_inj]
    refine ⟨hc, fun c hc => ⟨fun z => (nomatch z), fun _ => ?_⟩⟩
    first | exact hc | exact ⟨_, _, rfl, hc⟩
  · rintro τ2 ⟨c, c6, rfl, hc⟩
    exact hn _ _ hc
theorem c3_law_ok {n : Nat} {q : D → List Cell → Prop} {e : Xn → List Cell → Prop} (h1 : 1 ≤ n) (h2 : n ≤ 100) (hq : q (.lst ((rowP n).map ptD)) [c0, c1, c2, c3, c4, .any, c6, .dat (.tup (steps3.map thD)), .dat (.int (n : Nat)), c9, c10, c11, c12]) : c3_law K Z [c0, c1, c2, c3, c4, c5, c6, .dat (.tup (steps3.map thD)), .dat (.int (n : Nat)), c9, c10, c11, c12] q e := by
  unfold c3_law wLc
  simp only [wPeekR, wTor, wSor, wXor, gNotInL, wAugVC, wRetOwnG, wRetSortFr, wExtend, gMaxT, gMinT, wAppendB, gRepT1, wFrzD, dcOf, wKeys, wDGet, wDIn, wDkNew, wDtNew, wDlNew, wLate, wPopAt, wIsiT, wRepOwn, gRepL, wAugSOwn, wListRgOwn, wZipK3, gRepT, wCountB, wIndexB, wIsiOwn, wPeekL, wCallFr, wStar, wSortSet, wTryAs, wIsE, offE, wListRg1, wListRg2, wRngDown, wZipK, gInL, gNotInT, wCatOwn, gIsB, gNotB, D.adr.injEq, Cont.pool.injEq, ixN31, ne_eq, List.map_cons, List.map_nil, wPoolOpen, wPoolClose, wPop0, wPopTo, wListOwn, wRemove, wRaise0, wRaise1, wAugOwn, wEnumL, wTru, wSlA, gCatA, gLtT, gLeT, wFrz, wChain3, wAttr, wMkF, wEnumT, wRevT, wDict0, wDict1, numD3, Nat.reduceAdd, atI0, atI1, atI2, atI3, atI4, ixN51, ixN52, ixN53, List.length_map, wNever, scal, V.int.injEq, V.str.injEq, V.bl.injEq, wSq, wNext, wBreak, wCont, wDrop, wRet, wRetN, wIfS, wAsg, wPar, wLstOwn, wAppend, wSetOwn, wIxOwn, wPeek, wRetOwn, wRetFr, wFor, wB, wNot, wAnd, wOr, wAndV, wOrV, wNotV, wIf, wChain, wNil, wCons, wCB, wTup, wLst, wNoPart, wPart, wSlT, wSlL, wSeq, wRng1, wRng2, wZip, wName, wNilT, wConsT, wTupT, wYes, wNeg, wVar, wC, wOp, wcNil, wcCons, wcOwn, wCall, wCallOwn, slots, cellsOf, OwnArgs, putBack, g2I, g2IC, gLen, gAbs, gGcd, gInt1, gTupleOf, gListOf, gIx, gCatT, gCat, gEq, gNe, gIsN, gNotN, scD, seqD_t, seqD_l, seqD_f, isNonD, List.nodup_cons, List.mem_cons, List.not_mem_nil, or_false, not_false_eq_true, Nat.reduceEqDiff, L3.Keeps, ends, wipeD, List.replicate, List.cons_append, List.nil_append, List.append_nil, List.getElem?_cons_zero, List.getElem?_cons_succ, List.set_cons_zero, List.set_cons_succ, List.getD_cons_zero, List.getD_cons_succ, List.length_cons, List.length_nil, List.nodup_nil, Option.some.injEq, Cell.dat.injEq, Cell.own.injEq, Cont.lst.injEq, D.bl.injEq, D.int.injEq, D.str.injEq, D.tup.injEq, D.lst.injEq, Arg.d.injEq, List.cons.injEq, exists_and_left, exists_and_right, exists_eq_left', exists_eq_left, exists_eq_right, exists_eq_right', exists_eq, exists_eq', and_true, true_and, and_assoc, and_self, exists_const, reduceCtorEq, web_wE, web_pE, webD_inj]
  have e0 : ((n : Int) - 1).toNat = n - 1 := by omega
  refine ⟨by omega, by omega, by rw [rangeD_length]; omega, fun i acc τ => τ = [c0, c1, c2, c3, c4, .any, c6, .dat (.tup (steps3.map thD)), .dat (.int (n : Nat)), c9, c10, c11, c12] ∧ acc = ((List.range i).map fun k => ((k, k + 1, steps3) : Pt)).map ptD, ⟨rfl, rfl⟩, ?_, ?_⟩
  · rintro i d acc τ2 hi ⟨rfl, rfl⟩ -
    have hlt := (List.getElem?_eq_some_iff.mp hi).1
    rw [rangeD_length] at hlt
    rw [rangeD_get hlt, Int.zero_add] at hi
    cases hi
    simp only [wPeekR, wTor, wSor, wXor, gNotInL, wAugVC, wRetOwnG, wRetSortFr, wExtend, gMaxT, gMinT, wAppendB, gRepT1, wFrzD, dcOf, wKeys, wDGet, wDIn, wDkNew, wDtNew, wDlNew, wLate, wPopAt, wIsiT, wRepOwn, gRepL, wAugSOwn, wListRgOwn, wZipK3, gRepT, wCountB, wIndexB, wIsiOwn, wPeekL, wCallFr, wStar, wSortSet, wTryAs, wIsE, offE, wListRg1, wListRg2, wRngDown, wZipK, gInL, gNotInT, wCatOwn, gIsB, gNotB, D.adr.injEq, Cont.pool.injEq, ixN31, ne_eq, List.map_cons, List.map_nil, wPoolOpen, wPoolClose, wPop0, wPopTo, wListOwn, wRemove, wRaise0, wRaise1, wAugOwn, wEnumL, wTru, wSlA, gCatA, gLtT, gLeT, wFrz, wChain3, wAttr, wMkF, wEnumT, wRevT, wDict0, wDict1, numD3, Nat.reduceAdd, atI0, atI1, atI2, atI3, atI4, ixN51, ixN52, ixN53, List.length_map, wNever, scal, V.int.injEq, V.str.injEq, V.bl.injEq, wSq, wNext, wBreak, wCont, wDrop, wRet, wRetN, wIfS, wAsg, wPar, wLstOwn, wAppend, wSetOwn, wIxOwn, wPeek, wRetOwn, wRetFr, wFor, wB, wNot, wAnd, wOr, wAndV, wOrV, wNotV, wIf, wChain, wNil, wCons, wCB, wTup, wLst, wNoPart, wPart, wSlT, wSlL, wSeq, wRng1, wRng2, wZip, wName, wNilT, wConsT, wTupT, wYes, wNeg, wVar, wC, wOp, wcNil, wcCons, wcOwn, wCall, wCallOwn, slots, cellsOf, OwnArgs, putBack, g2I, g2IC, gLen, gAbs, gGcd, gInt1, gTupleOf, gListOf, gIx, gCatT, gCat, gEq, gNe, gIsN, gNotN, scD, seqD_t, seqD_l, seqD_f, isNonD, List.nodup_cons, List.mem_cons, List.not_mem_nil, or_false, not_false_eq_true, Nat.reduceEqDiff, L3.Keeps, ends, wipeD, List.replicate, List.cons_append, List.nil_append, List.append_nil, List.getElem?_cons_zero, List.getElem?_cons_succ, List.set_cons_zero, List.set_cons_succ, List.getD_cons_zero, List.getD_cons_succ, List.length_cons, List.length_nil, List.nodup_nil, Option.some.injEq, Cell.dat.injEq, Cell.own.injEq, Cont.lst.injEq, D.bl.injEq, D.int.injEq, D.str.injEq, D.tup.injEq, D.lst.injEq, Arg.d.injEq, List.cons.injEq, exists_and_left, exists_and_right, exists_eq_left', exists_eq_left, exists_eq_right, exists_eq_right', exists_eq, exists_eq', and_true, true_and, and_assoc, and_self, exists_const, reduceCtorEq, web_wE, web_pE, webD_inj]
    refine ⟨fun _ => ⟨by decide, ?_⟩, fun z => z.elim⟩
    rw [List.range_succ, List.map_append, List.map_append]
    rfl
  · rintro acc τ2 ⟨h1, h2⟩ -
    rw [rangeD_length, e0] at h2
    rw [h1, h2]
    exact hq
theorem c1_law_ok {n : Nat} {s : Int} {q : D → List Cell → Prop} {e : Xn → List Cell → Prop} (h2 : n ≤ 100) (hq : q (.lst ((starP n s).map ptD)) [c0, c1, .dat (.int (n : Nat)), .dat (.int s), c4, .any, c6, c7, c8, c9, c10, c11, c12]) : c1_law K Z [c0, c1, .dat (.int (n : Nat)), .dat (.int s), c4, c5, c6, c7, c8, c9, c10, c11, c12] q e := by
  unfold c1_law wLc
  simp only [wPeekR, wTor, wSor, wXor, gNotInL, wAugVC, wRetOwnG, wRetSortFr, wExtend, gMaxT, gMinT, wAppendB, gRepT1, wFrzD, dcOf, wKeys, wDGet, wDIn, wDkNew, wDtNew, wDlNew, wLate, wPopAt, wIsiT, wRepOwn, gRepL, wAugSOwn, wListRgOwn, wZipK3, gRepT, wCountB, wIndexB, wIsiOwn, wPeekL, wCallFr, wStar, wSortSet, wTryAs, wIsE, offE, wListRg1, wListRg2, wRngDown, wZipK, gInL, gNotInT, wCatOwn, gIsB, gNotB, D.adr.injEq, Cont.pool.injEq, ixN31, ne_eq, List.map_cons, List.map_nil, wPoolOpen, wPoolClose, wPop0, wPopTo, wListOwn, wRemove, wRaise0, wRaise1, wAugOwn, wEnumL, wTru, wSlA, gCatA, gLtT, gLeT, wFrz, wChain3, wAttr, wMkF, wEnumT, wRevT, wDict0, wDict1, numD3, Nat.reduceAdd, atI0, atI1, atI2, atI3, atI4, ixN51, ixN52, ixN53, List.length_map, wNever, scal, V.int.injEq, V.str.injEq, V.bl.injEq, wSq, wNext, wBreak, wCont, wDrop, wRet, wRetN, wIfS, wAsg, wPar, wLstOwn, wAppend, wSetOwn, wIxOwn, wPeek, wRetOwn, wRetFr, wFor, wB, wNot, wAnd, wOr, wAndV, wOrV, wNotV, wIf, wChain, wNil, wCons, wCB, wTup, wLst, wNoPart, wPart, wSlT, wSlL, wSeq, wRng1, wRng2, wZip, wName, wNilT, wConsT, wTupT, wYes, wNeg, wVar, wC, wOp, wcNil, wcCons, wcOwn, wCall, wCallOwn, slots, cellsOf, OwnArgs, putBack, g2I, g2IC, gLen, gAbs, gGcd, gInt1, gTupleOf, gListOf, gIx, gCatT, gCat, gEq, gNe, gIsN, gNotN, scD, seqD_t, seqD_l, seqD_f, isNonD, List.nodup_cons, List.mem_cons, List.not_mem_nil, or_false, not_false_eq_true, Nat.reduceEqDiff, L3.Keeps, ends, wipeD, List.replicate, List.cons_append, List.nil_append, List.append_nil, List.getElem?_cons_zero, List.getElem?_cons_succ, List.set_cons_zero, List.set_cons_succ, List.getD_cons_zero, List.getD_cons_succ, List.length_cons, List.length_nil, List.nodup_nil, Option.some.injEq, Cell.dat.injEq, Cell.own.injEq, Cont.lst.injEq, D.bl.injEq, D.int.injEq, D.str.injEq, D.tup.injEq, D.lst.injEq, Arg.d.injEq, List.cons.injEq, exists_and_left, exists_and_right, exists_eq_left', exists_eq_left, exists_eq_right, exists_eq_right', exists_eq, exists_eq', and_true, true_and, and_assoc, and_self, exists_const, reduceCtorEq, web_wE, web_pE, webD_inj]
  refine ⟨by omega, by omega, by rw [rangeD_length]; omega, fun i acc τ => τ = [c0, c1, .dat (.int (n : Nat)), .dat (.int s), c4, .any, c6, c7, c8, c9, c10, c11, c12] ∧ acc = ((List.range i).map fun k => ((0, k + 1, [(s, 1)]) : Pt)).map ptD, ⟨rfl, rfl⟩, ?_, ?_⟩
  · rintro i d acc τ2 hi ⟨rfl, rfl⟩ -
    have hlt := (List.getElem?_eq_some_iff.mp hi).1
    rw [rangeD_length] at hlt
    rw [rangeD_get hlt, Int.zero_add] at hi
    cases hi
    simp only [wPeekR, wTor, wSor, wXor, gNotInL, wAugVC, wRetOwnG, wRetSortFr, wExtend, gMaxT, gMinT, wAppendB, gRepT1, wFrzD, dcOf, wKeys, wDGet, wDIn, wDkNew, wDtNew, wDlNew, wLate, wPopAt, wIsiT, wRepOwn, gRepL, wAugSOwn, wListRgOwn, wZipK3, gRepT, wCountB, wIndexB, wIsiOwn, wPeekL, wCallFr, wStar, wSortSet, wTryAs, wIsE, offE, wListRg1, wListRg2, wRngDown, wZipK, gInL, gNotInT, wCatOwn, gIsB, gNotB, D.adr.injEq, Cont.pool.injEq, ixN31, ne_eq, List.map_cons, List.map_nil, wPoolOpen, wPoolClose, wPop0, wPopTo, wListOwn, wRemove, wRaise0, wRaise1, wAugOwn, wEnumL, wTru, wSlA, gCatA, gLtT, gLeT, wFrz, wChain3, wAttr, wMkF, wEnumT, wRevT, wDict0, wDict1, numD3, Nat.reduceAdd, atI0, atI1, atI2, atI3, atI4, ixN51, ixN52, ixN53, List.length_map, wNever, scal, V.int.injEq, V.str.injEq, V.bl.injEq, wSq, wNext, wBreak, wCont, wDrop, wRet, wRetN, wIfS, wAsg, wPar, wLstOwn, wAppend, wSetOwn, wIxOwn, wPeek, wRetOwn, wRetFr, wFor, wB, wNot, wAnd, wOr, wAndV, wOrV, wNotV, wIf, wChain, wNil, wCons, wCB, wTup, wLst, wNoPart, wPart, wSlT, wSlL, wSeq, wRng1, wRng2, wZip, wName, wNilT, wConsT, wTupT, wYes, wNeg, wVar, wC, wOp, wcNil, wcCons, wcOwn, wCall, wCallOwn, slots, cellsOf, OwnArgs, putBack, g2I, g2IC, gLen, gAbs, gGcd, gInt1, gTupleOf, gListOf, gIx, gCatT, gCat, gEq, gNe, gIsN, gNotN, scD, seqD_t, seqD_l, seqD_f, isNonD, List.nodup_cons, List.mem_cons, List.not_mem_nil, or_false, not_false_eq_true, Nat.reduceEqDiff, L3.Keeps, ends, wipeD, List.replicate, List.cons_append, List.nil_append, List.append_nil, List.getElem?_cons_zero, List.getElem?_cons_succ, List.set_cons_zero, List.set_cons_succ, List.getD_cons_zero, List.getD_cons_succ, List.length_cons, List.length_nil, List.nodup_nil, Option.some.injEq, Cell.dat.injEq, Cell.own.injEq, Cont.lst.injEq, D.bl.injEq, D.int.injEq, D.str.injEq, D.tup.injEq, D.lst.injEq, Arg.d.injEq, List.cons.injEq, exists_and_left, exists_and_right, exists_eq_left', exists_eq_left, exists_eq_right, exists_eq_right', exists_eq, exists_eq', and_true, true_and, and_assoc, and_self, exists_const, reduceCtorEq, web_wE, web_pE, webD_inj]
    refine ⟨fun _ => ⟨by decide, by decide, by decide, ?_⟩, fun z => z.elim⟩
    rw [List.range_succ, List.map_append, List.map_append]
    rfl
  · rintro acc τ2 ⟨h1, h2⟩ -
    rw [rangeD_length, Int.toNat_natCast] at h2
    rw [h1, h2]
    exact hq
theorem t8_law_ok {n : Nat} (n1 : n < 4) (hn : ∀ c5 c9 c10 c11 c12, E.rt (.bl true) [c0, c1, c2, c3, c4, c5, c6, .dat (.tup (steps3.map thD)), .dat (.int ((n + 2 : Nat) : Int)), c9, c10, c11, c12]) : t8_law K Z E [c0, c1, c2, c3, c4, c5, c6, .dat (.tup (steps3.map thD)), .dat (.int ((n + 2 : Nat) : Int)), c9, c10, c11, c12] := by
  have hb := row_ok n1
  obtain ⟨hwv, wo⟩ := wo_of hb
  have hwo := web_okd (K := K) hwv
  simp only [t8_law, wMkI, fs_Web__init__, fs_calm_web, flat_rep, ones, Int.toNat_natCast, wPeekR, wTor, wSor, wXor, gNotInL, wAugVC, wRetOwnG, wRetSortFr, wExtend, gMaxT, gMinT, wAppendB, gRepT1, wFrzD, dcOf, wKeys, wDGet, wDIn, wDkNew, wDtNew, wDlNew, wLate, wPopAt, wIsiT, wRepOwn, gRepL, wAugSOwn, wListRgOwn, wZipK3, gRepT, wCountB, wIndexB, wIsiOwn, wPeekL, wCallFr, wStar, wSortSet, wTryAs, wIsE, offE, wListRg1, wListRg2, wRngDown, wZipK, gInL, gNotInT, wCatOwn, gIsB, gNotB, D.adr.injEq, Cont.pool.injEq, ixN31, ne_eq, List.map_cons, List.map_nil, wPoolOpen, wPoolClose, wPop0, wPopTo, wListOwn, wRemove, wRaise0, wRaise1, wAugOwn, wEnumL, wTru, wSlA, gCatA, gLtT, gLeT, wFrz, wChain3, wAttr, wMkF, wEnumT, wRevT, wDict0, wDict1, numD3, Nat.reduceAdd, atI0, atI1, atI2, atI3, atI4, ixN51, ixN52, ixN53, List.length_map, wNever, scal, V.int.injEq, V.str.injEq, V.bl.injEq, wSq, wNext, wBreak, wCont, wDrop, wRet, wRetN, wIfS, wAsg, wPar, wLstOwn, wAppend, wSetOwn, wIxOwn, wPeek, wRetOwn, wRetFr, wFor, wB, wNot, wAnd, wOr, wAndV, wOrV, wNotV, wIf, wChain, wNil, wCons, wCB, wTup, wLst, wNoPart, wPart, wSlT, wSlL, wSeq, wRng1, wRng2, wZip, wName, wNilT, wConsT, wTupT, wYes, wNeg, wVar, wC, wOp, wcNil, wcCons, wcOwn, wCall, wCallOwn, slots, cellsOf, OwnArgs, putBack, g2I, g2IC, gLen, gAbs, gGcd, gInt1, gTupleOf, gListOf, gIx, gCatT, gCat, gEq, gNe, gIsN, gNotN, scD, seqD_t, seqD_l, seqD_f, isNonD, List.nodup_cons, List.mem_cons, List.not_mem_nil, or_false, not_false_eq_true, Nat.reduceEqDiff, L3.Keeps, ends, wipeD, List.replicate, List.cons_append, List.nil_append, List.append_nil, List.getElem?_cons_zero, List.getElem?_cons_succ, List.set_cons_zero, List.set_cons_succ, List.getD_cons_zero, List.getD_cons_succ, List.length_cons, List.length_nil, List.nodup_nil, Option.some.injEq, Cell.dat.injEq, Cell.own.injEq, Cont.lst.injEq, D.bl.injEq, D.int.injEq, D.str.injEq, D.tup.injEq, D.lst.injEq, Arg.d.injEq, List.cons.injEq, exists_and_left, exists_and_right, exists_eq_left', exists_eq_left, exists_eq_right, exists_eq_right', exists_eq, exists_eq', and_true, true_and, and_assoc, and_self, exists_const, reduceCtorEq, web_wE, web_pE, webD_inj]
  refine ⟨by decide, by omega, by omega, by decide, c3_law_ok (by omega) (by omega) ?_⟩
  simp only [seqD_l, wPeekR, wTor, wSor, wXor, gNotInL, wAugVC, wRetOwnG, wRetSortFr, wExtend, gMaxT, gMinT, wAppendB, gRepT1, wFrzD, dcOf, wKeys, wDGet, wDIn, wDkNew, wDtNew, wDlNew, wLate, wPopAt, wIsiT, wRepOwn, gRepL, wAugSOwn, wListRgOwn, wZipK3, gRepT, wCountB, wIndexB, wIsiOwn, wPeekL, wCallFr, wStar, wSortSet, wTryAs, wIsE, offE, wListRg1, wListRg2, wRngDown, wZipK, gInL, gNotInT, wCatOwn, gIsB, gNotB, D.adr.injEq, Cont.pool.injEq, ixN31, ne_eq, List.map_cons, List.map_nil, wPoolOpen, wPoolClose, wPop0, wPopTo, wListOwn, wRemove, wRaise0, wRaise1, wAugOwn, wEnumL, wTru, wSlA, gCatA, gLtT, gLeT, wFrz, wChain3, wAttr, wMkF, wEnumT, wRevT, wDict0, wDict1, numD3, Nat.reduceAdd, atI0, atI1, atI2, atI3, atI4, ixN51, ixN52, ixN53, List.length_map, wNever, scal, V.int.injEq, V.str.injEq, V.bl.injEq, wSq, wNext, wBreak, wCont, wDrop, wRet, wRetN, wIfS, wAsg, wPar, wLstOwn, wAppend, wSetOwn, wIxOwn, wPeek, wRetOwn, wRetFr, wFor, wB, wNot, wAnd, wOr, wAndV, wOrV, wNotV, wIf, wChain, wNil, wCons, wCB, wTup, wLst, wNoPart, wPart, wSlT, wSlL, wSeq, wRng1, wRng2, wZip, wName, wNilT, wConsT, wTupT, wYes, wNeg, wVar, wC, wOp, wcNil, wcCons, wcOwn, wCall, wCallOwn, slots, cellsOf, OwnArgs, putBack, g2I, g2IC, gLen, gAbs, gGcd, gInt1, gTupleOf, gListOf, gIx, gCatT, gCat, gEq, gNe, gIsN, gNotN, scD, seqD_t, seqD_l, seqD_f, isNonD, List.nodup_cons, List.mem_cons, List.not_mem_nil, or_false, not_false_eq_true, Nat.reduceEqDiff, L3.Keeps, ends, wipeD, List.replicate, List.cons_append, List.nil_append, List.append_nil, List.getElem?_cons_zero, List.getElem?_cons_succ, List.set_cons_zero, List.set_cons_succ, List.getD_cons_zero, List.getD_cons_succ, List.length_cons, List.length_nil, List.nodup_nil, Option.some.injEq, Cell.dat.injEq, Cell.own.injEq, Cont.lst.injEq, D.bl.injEq, D.int.injEq, D.str.injEq, D.tup.injEq, D.lst.injEq, Arg.d.injEq, List.cons.injEq, exists_and_left, exists_and_right, exists_eq_left', exists_eq_left, exists_eq_right, exists_eq_right', exists_eq, exists_eq', and_true, true_and, and_assoc, and_self, exists_const, reduceCtorEq, web_wE, web_pE, webD_inj]
  refine fun _ dx => ⟨dx, rfl, hwo.1, hwo.2, fun part q => (wo part q).elim, fun _ => ⟨_, rfl, List.replicate (n + 2) 1, rowP (n + 2), rfl, _, hb, ?_⟩⟩
  have e : (((n + 2 : Nat) : Int)) = (n : Int) + 2 := by omega
  refine ne_bl ?_
  rw [e, bne_self_eq_false]
  refine ⟨_, rfl, fun z => (nomatch z), fun _ => ?_⟩
  simp only [t9_law, t10_law, wPeekR, wTor, wSor, wXor, gNotInL, wAugVC, wRetOwnG, wRetSortFr, wExtend, gMaxT, gMinT, wAppendB, gRepT1, wFrzD, dcOf, wKeys, wDGet, wDIn, wDkNew, wDtNew, wDlNew, wLate, wPopAt, wIsiT, wRepOwn, gRepL, wAugSOwn, wListRgOwn, wZipK3, gRepT, wCountB, wIndexB, wIsiOwn, wPeekL, wCallFr, wStar, wSortSet, wTryAs, wIsE, offE, wListRg1, wListRg2, wRngDown, wZipK, gInL, gNotInT, wCatOwn, gIsB, gNotB, D.adr.injEq, Cont.pool.injEq, ixN31, ne_eq, List.map_cons, List.map_nil, wPoolOpen, wPoolClose, wPop0, wPopTo, wListOwn, wRemove, wRaise0, wRaise1, wAugOwn, wEnumL, wTru, wSlA, gCatA, gLtT, gLeT, wFrz, wChain3, wAttr, wMkF, wEnumT, wRevT, wDict0, wDict1, numD3, Nat.reduceAdd, atI0, atI1, atI2, atI3, atI4, ixN51, ixN52, ixN53, List.length_map, wNever, scal, V.int.injEq, V.str.injEq, V.bl.injEq, wSq, wNext, wBreak, wCont, wDrop, wRet, wRetN, wIfS, wAsg, wPar, wLstOwn, wAppend, wSetOwn, wIxOwn, wPeek, wRetOwn, wRetFr, wFor, wB, wNot, wAnd, wOr, wAndV, wOrV, wNotV, wIf, wChain, wNil, wCons, wCB, wTup, wLst, wNoPart, wPart, wSlT, wSlL, wSeq, wRng1, wRng2, wZip, wName, wNilT, wConsT, wTupT, wYes, wNeg, wVar, wC, wOp, wcNil, wcCons, wcOwn, wCall, wCallOwn, slots, cellsOf, OwnArgs, putBack, g2I, g2IC, gLen, gAbs, gGcd, gInt1, gTupleOf, gListOf, gIx, gCatT, gCat, gEq, gNe, gIsN, gNotN, scD, seqD_t, seqD_l, seqD_f, isNonD, List.nodup_cons, List.mem_cons, List.not_mem_nil, or_false, not_false_eq_true, Nat.reduceEqDiff, L3.Keeps, ends, wipeD, List.replicate, List.cons_append, List.nil_append, List.append_nil, List.getElem?_cons_zero, List.getElem?_cons_succ, List.set_cons_zero, List.set_cons_succ, List.getD_cons_zero, List.getD_cons_succ, List.length_cons, List.length_nil, List.nodup_nil, Option.some.injEq, Cell.dat.injEq, Cell.own.injEq, Cont.lst.injEq, D.bl.injEq, D.int.injEq, D.str.injEq, D.tup.injEq, D.lst.injEq, Arg.d.injEq, List.cons.injEq, exists_and_left, exists_and_right, exists_eq_left', exists_eq_left, exists_eq_right, exists_eq_right', exists_eq, exists_eq', and_true, true_and, and_assoc, and_self, exists_const, reduceCtorEq, web_wE, web_pE, webD_inj]
  refine ⟨by decide, by decide, by decide, by decide, ?_⟩
  have e3 : [D.tup [.int 3, .int 1], .tup [.int 5, .int 1], .tup [.int 7, .int 1]] = wide3.map thD := rfl
  rw [e3, ← e]
  refine l4_law_ok fun c10 c11 c12 => ?_
  exact hn _ _ _ _ _
theorem t4_law_ok {m s : Nat} (hc : PoolC c) (m1 : m < 6) (s1 : s < 5) (hn : ∀ c1 c5 c6 c7 c8 c9 c10 c11 c12, E.rt (.bl true) [c0, c1, .dat (.int ((m + 1 : Nat) : Int)), .dat (.int ((s : Int) + 1)), .dat (webD Z.C_Web (.tup (iD (List.replicate (m + 2) 1))) (.tup ((starP (m + 1) ((s : Int) + 1)).map ptD))), c5, c6, c7, c8, c9, c10, c11, c12]) :
    t4_law K Z E [c0, .own p c, .dat (.int ((m + 1 : Nat) : Int)), .dat (.int ((s : Int) + 1)), .dat (webD Z.C_Web (.tup (iD (List.replicate (m + 2) 1))) (.tup ((starP (m + 1) ((s : Int) + 1)).map ptD))), c5, c6, c7, c8, c9, c10, c11, c12] := by
  have hb := star_ok m1 s1
  simp only [t4_law, fs_calm_web, wPeekR, wTor, wSor, wXor, gNotInL, wAugVC, wRetOwnG, wRetSortFr, wExtend, gMaxT, gMinT, wAppendB, gRepT1, wFrzD, dcOf, wKeys, wDGet, wDIn, wDkNew, wDtNew, wDlNew, wLate, wPopAt, wIsiT, wRepOwn, gRepL, wAugSOwn, wListRgOwn, wZipK3, gRepT, wCountB, wIndexB, wIsiOwn, wPeekL, wCallFr, wStar, wSortSet, wTryAs, wIsE, offE, wListRg1, wListRg2, wRngDown, wZipK, gInL, gNotInT, wCatOwn, gIsB, gNotB, D.adr.injEq, Cont.pool.injEq, ixN31, ne_eq, List.map_cons, List.map_nil, wPoolOpen, wPoolClose, wPop0, wPopTo, wListOwn, wRemove, wRaise0, wRaise1, wAugOwn, wEnumL, wTru, wSlA, gCatA, gLtT, gLeT, wFrz, wChain3, wAttr, wMkF, wEnumT, wRevT, wDict0, wDict1, numD3, Nat.reduceAdd, atI0, atI1, atI2, atI3, atI4, ixN51, ixN52, ixN53, List.length_map, wNever, scal, V.int.injEq, V.str.injEq, V.bl.injEq, wSq, wNext, wBreak, wCont, wDrop, wRet, wRetN, wIfS, wAsg, wPar, wLstOwn, wAppend, wSetOwn, wIxOwn, wPeek, wRetOwn, wRetFr, wFor, wB, wNot, wAnd, wOr, wAndV, wOrV, wNotV, wIf, wChain, wNil, wCons, wCB, wTup, wLst, wNoPart, wPart, wSlT, wSlL, wSeq, wRng1, wRng2, wZip, wName, wNilT, wConsT, wTupT, wYes, wNeg, wVar, wC, wOp, wcNil, wcCons, wcOwn, wCall, wCallOwn, slots, cellsOf, OwnArgs, putBack, g2I, g2IC, gLen, gAbs, gGcd, gInt1, gTupleOf, gListOf, gIx, gCatT, gCat, gEq, gNe, gIsN, gNotN, scD, seqD_t, seqD_l, seqD_f, isNonD, List.nodup_cons, List.mem_cons, List.not_mem_nil, or_false, not_false_eq_true, Nat.reduceEqDiff, L3.Keeps, ends, wipeD, List.replicate, List.cons_append, List.nil_append, List.append_nil, List.getElem?_cons_zero, List.getElem?_cons_succ, List.set_cons_zero, List.set_cons_succ, List.getD_cons_zero, List.getD_cons_succ, List.length_cons, List.length_nil, List.nodup_nil, Option.some.injEq, Cell.dat.injEq, Cell.own.injEq, Cont.lst.injEq, D.bl.injEq, D.int.injEq, D.str.injEq, D.tup.injEq, D.lst.injEq, Arg.d.injEq, List.cons.injEq, exists_and_left, exists_and_right, exists_eq_left', exists_eq_left, exists_eq_right, exists_eq_right', exists_eq, exists_eq', and_true, true_and, and_assoc, and_self, exists_const, reduceCtorEq, web_wE, web_pE, webD_inj]
  refine ⟨List.replicate (m + 2) 1, rfl, starP (m + 1) ((s : Int) + 1), rfl, _, hb, cmul_l (by decide) (by decide), ne_bl ?_⟩
  have e : (((m + 1 : Nat) : Int)) + 1 = (m : Int) + 2 := by omega
  rw [e, bne_self_eq_false]
  refine ⟨_, rfl, fun z => (nomatch z), fun _ => ?_⟩
  simp only [t5_law, wSq]
  refine l2_law_ok hc fun c c6 hc => ?_
  simp only [t6_law, fs__law_pick, wPeekR, wTor, wSor, wXor, gNotInL, wAugVC, wRetOwnG, wRetSortFr, wExtend, gMaxT, gMinT, wAppendB, gRepT1, wFrzD, dcOf, wKeys, wDGet, wDIn, wDkNew, wDtNew, wDlNew, wLate, wPopAt, wIsiT, wRepOwn, gRepL, wAugSOwn, wListRgOwn, wZipK3, gRepT, wCountB, wIndexB, wIsiOwn, wPeekL, wCallFr, wStar, wSortSet, wTryAs, wIsE, offE, wListRg1, wListRg2, wRngDown, wZipK, gInL, gNotInT, wCatOwn, gIsB, gNotB, D.adr.injEq, Cont.pool.injEq, ixN31, ne_eq, List.map_cons, List.map_nil, wPoolOpen, wPoolClose, wPop0, wPopTo, wListOwn, wRemove, wRaise0, wRaise1, wAugOwn, wEnumL, wTru, wSlA, gCatA, gLtT, gLeT, wFrz, wChain3, wAttr, wMkF, wEnumT, wRevT, wDict0, wDict1, numD3, Nat.reduceAdd, atI0, atI1, atI2, atI3, atI4, ixN51, ixN52, ixN53, List.length_map, wNever, scal, V.int.injEq, V.str.injEq, V.bl.injEq, wSq, wNext, wBreak, wCont, wDrop, wRet, wRetN, wIfS, wAsg, wPar, wLstOwn, wAppend, wSetOwn, wIxOwn, wPeek, wRetOwn, wRetFr, wFor, wB, wNot, wAnd, wOr, wAndV, wOrV, wNotV, wIf, wChain, wNil, wCons, wCB, wTup, wLst, wNoPart, wPart, wSlT, wSlL, wSeq, wRng1, wRng2, wZip, wName, wNilT, wConsT, wTupT, wYes, wNeg, wVar, wC, wOp, wcNil, wcCons, wcOwn, wCall, wCallOwn, slots, cellsOf, OwnArgs, putBack, g2I, g2IC, gLen, gAbs, gGcd, gInt1, gTupleOf, gListOf, gIx, gCatT, gCat, gEq, gNe, gIsN, gNotN, scD, seqD_t, seqD_l, seqD_f, isNonD, List.nodup_cons, List.mem_cons, List.not_mem_nil, or_false, not_false_eq_true, Nat.reduceEqDiff, L3.Keeps, ends, wipeD, List.replicate, List.cons_append, List.nil_append, List.append_nil, List.getElem?_cons_zero, List.getElem?_cons_succ, List.set_cons_zero, List.set_cons_succ, List.getD_cons_zero, List.getD_cons_succ, List.length_cons, List.length_nil, List.nodup_nil, Option.some.injEq, Cell.dat.injEq, Cell.own.injEq, Cont.lst.injEq, D.bl.injEq, D.int.injEq, D.str.injEq, D.tup.injEq, D.lst.injEq, Arg.d.injEq, List.cons.injEq, exists_and_left, exists_and_right, exists_eq_left', exists_eq_left, exists_eq_right, exists_eq_right', exists_eq, exists_eq', and_true, true_and, and_assoc, and_self, exists_const, reduceCtorEq, web_wE, web_pE, webD_inj]
  refine ⟨by decide, by decide, by decide, by decide, hc, by decide, by decide, fun c n hc n0 n1 => ?_⟩
  obtain ⟨n, rfl⟩ := Int.eq_ofNat_of_zero_le n0
  have en : 2 + (n : Int) = ((n + 2 : Nat) : Int) := by omega
  have e3 : [D.tup [.int 2, .int 1], .tup [.int 4, .int 1], .tup [.int 5, .int 1]] = steps3.map thD := rfl
  rw [en, e3]
  exact t8_law_ok (by omega) fun c5 c9 c10 c11 c12 => hn _ _ _ _ _ _ _ _ _
end
theorem pure_law {Z : CT} : PureD 1 12 (fs_law K Z) (w_law K Z) := by
  rintro cs q e - ⟨ns, rfl, hl, L, hq⟩
  simp only [w_law, fs__law_tape, fs__law_pick, wMkI, fs_Web__init__, flat_rep, ones, wPeekR, wTor, wSor, wXor, gNotInL, wAugVC, wRetOwnG, wRetSortFr, wExtend, gMaxT, gMinT, wAppendB, gRepT1, wFrzD, dcOf, wKeys, wDGet, wDIn, wDkNew, wDtNew, wDlNew, wLate, wPopAt, wIsiT, wRepOwn, gRepL, wAugSOwn, wListRgOwn, wZipK3, gRepT, wCountB, wIndexB, wIsiOwn, wPeekL, wCallFr, wStar, wSortSet, wTryAs, wIsE, offE, wListRg1, wListRg2, wRngDown, wZipK, gInL, gNotInT, wCatOwn, gIsB, gNotB, D.adr.injEq, Cont.pool.injEq, ixN31, ne_eq, List.map_cons, List.map_nil, wPoolOpen, wPoolClose, wPop0, wPopTo, wListOwn, wRemove, wRaise0, wRaise1, wAugOwn, wEnumL, wTru, wSlA, gCatA, gLtT, gLeT, wFrz, wChain3, wAttr, wMkF, wEnumT, wRevT, wDict0, wDict1, numD3, Nat.reduceAdd, atI0, atI1, atI2, atI3, atI4, ixN51, ixN52, ixN53, List.length_map, wNever, scal, V.int.injEq, V.str.injEq, V.bl.injEq, wSq, wNext, wBreak, wCont, wDrop, wRet, wRetN, wIfS, wAsg, wPar, wLstOwn, wAppend, wSetOwn, wIxOwn, wPeek, wRetOwn, wRetFr, wFor, wB, wNot, wAnd, wOr, wAndV, wOrV, wNotV, wIf, wChain, wNil, wCons, wCB, wTup, wLst, wNoPart, wPart, wSlT, wSlL, wSeq, wRng1, wRng2, wZip, wName, wNilT, wConsT, wTupT, wYes, wNeg, wVar, wC, wOp, wcNil, wcCons, wcOwn, wCall, wCallOwn, slots, cellsOf, OwnArgs, putBack, g2I, g2IC, gLen, gAbs, gGcd, gInt1, gTupleOf, gListOf, gIx, gCatT, gCat, gEq, gNe, gIsN, gNotN, scD, seqD_t, seqD_l, seqD_f, isNonD, List.nodup_cons, List.mem_cons, List.not_mem_nil, or_false, not_false_eq_true, Nat.reduceEqDiff, L3.Keeps, ends, wipeD, List.replicate, List.cons_append, List.nil_append, List.append_nil, List.getElem?_cons_zero, List.getElem?_cons_succ, List.set_cons_zero, List.set_cons_succ, List.getD_cons_zero, List.getD_cons_succ, List.length_cons, List.length_nil, List.nodup_nil, Option.some.injEq, Cell.dat.injEq, Cell.own.injEq, Cont.lst.injEq, D.bl.injEq, D.int.injEq, D.str.injEq, D.tup.injEq, D.lst.injEq, Arg.d.injEq, List.cons.injEq, exists_and_left, exists_and_right, exists_eq_left', exists_eq_left, exists_eq_right, exists_eq_right', exists_eq, exists_eq', and_true, true_and, and_assoc, and_self, exists_const, reduceCtorEq, web_wE, web_pE, webD_inj]
  refine ⟨ns, rfl, hl, fun c hc p => ⟨hc, by decide, by decide, fun c m hc m0 m1 => ⟨hc, by decide, by decide, fun c s hc s0 s1 => ?_⟩⟩⟩
  obtain ⟨m, rfl⟩ := Int.eq_ofNat_of_zero_le m0
  obtain ⟨s, rfl⟩ := Int.eq_ofNat_of_zero_le s0
  have e1 : 1 + (m : Int) = ((m + 1 : Nat) : Int) := by omega
  have e2 : 1 + (s : Int) = (s : Int) + 1 := by omega
  rw [e1, e2]
  have hb := star_ok (m := m) (s := s) (by omega) (by omega)
  obtain ⟨hwv, wo⟩ := wo_of hb
  have hwo := web_okd (K := K) hwv
  have e3 : (((m + 1 : Nat) : Int) + 1).toNat = m + 2 := by omega
  rw [e3]
  refine ⟨by decide, by omega, by omega, by decide, c1_law_ok (by omega) ?_⟩
  simp only [seqD_l, wPeekR, wTor, wSor, wXor, gNotInL, wAugVC, wRetOwnG, wRetSortFr, wExtend, gMaxT, gMinT, wAppendB, gRepT1, wFrzD, dcOf, wKeys, wDGet, wDIn, wDkNew, wDtNew, wDlNew, wLate, wPopAt, wIsiT, wRepOwn, gRepL, wAugSOwn, wListRgOwn, wZipK3, gRepT, wCountB, wIndexB, wIsiOwn, wPeekL, wCallFr, wStar, wSortSet, wTryAs, wIsE, offE, wListRg1, wListRg2, wRngDown, wZipK, gInL, gNotInT, wCatOwn, gIsB, gNotB, D.adr.injEq, Cont.pool.injEq, ixN31, ne_eq, List.map_cons, List.map_nil, wPoolOpen, wPoolClose, wPop0, wPopTo, wListOwn, wRemove, wRaise0, wRaise1, wAugOwn, wEnumL, wTru, wSlA, gCatA, gLtT, gLeT, wFrz, wChain3, wAttr, wMkF, wEnumT, wRevT, wDict0, wDict1, numD3, Nat.reduceAdd, atI0, atI1, atI2, atI3, atI4, ixN51, ixN52, ixN53, List.length_map, wNever, scal, V.int.injEq, V.str.injEq, V.bl.injEq, wSq, wNext, wBreak, wCont, wDrop, wRet, wRetN, wIfS, wAsg, wPar, wLstOwn, wAppend, wSetOwn, wIxOwn, wPeek, wRetOwn, wRetFr, wFor, wB, wNot, wAnd, wOr, wAndV, wOrV, wNotV, wIf, wChain, wNil, wCons, wCB, wTup, wLst, wNoPart, wPart, wSlT, wSlL, wSeq, wRng1, wRng2, wZip, wName, wNilT, wConsT, wTupT, wYes, wNeg, wVar, wC, wOp, wcNil, wcCons, wcOwn, wCall, wCallOwn, slots, cellsOf, OwnArgs, putBack, g2I, g2IC, gLen, gAbs, gGcd, gInt1, gTupleOf, gListOf, gIx, gCatT, gCat, gEq, gNe, gIsN, gNotN, scD, seqD_t, seqD_l, seqD_f, isNonD, List.nodup_cons, List.mem_cons, List.not_mem_nil, or_false, not_false_eq_true, Nat.reduceEqDiff, L3.Keeps, ends, wipeD, List.replicate, List.cons_append, List.nil_append, List.append_nil, List.getElem?_cons_zero, List.getElem?_cons_succ, List.set_cons_zero, List.set_cons_succ, List.getD_cons_zero, List.getD_cons_succ, List.length_cons, List.length_nil, List.nodup_nil, Option.some.injEq, Cell.dat.injEq, Cell.own.injEq, Cont.lst.injEq, D.bl.injEq, D.int.injEq, D.str.injEq, D.tup.injEq, D.lst.injEq, Arg.d.injEq, List.cons.injEq, exists_and_left, exists_and_right, exists_eq_left', exists_eq_left, exists_eq_right, exists_eq_right', exists_eq, exists_eq', and_true, true_and, and_assoc, and_self, exists_const, reduceCtorEq, web_wE, web_pE, webD_inj]
  refine fun _ dx => ⟨dx, rfl, hwo.1, hwo.2, fun part q => (wo part q).elim, fun _ => ⟨_, rfl, ?_⟩⟩
  refine t4_law_ok hc (by omega) (by omega) fun c1 c5 c6 c7 c8 c9 c10 c11 c12 => ?_
  simp only [wPeekR, wTor, wSor, wXor, gNotInL, wAugVC, wRetOwnG, wRetSortFr, wExtend, gMaxT, gMinT, wAppendB, gRepT1, wFrzD, dcOf, wKeys, wDGet, wDIn, wDkNew, wDtNew, wDlNew, wLate, wPopAt, wIsiT, wRepOwn, gRepL, wAugSOwn, wListRgOwn, wZipK3, gRepT, wCountB, wIndexB, wIsiOwn, wPeekL, wCallFr, wStar, wSortSet, wTryAs, wIsE, offE, wListRg1, wListRg2, wRngDown, wZipK, gInL, gNotInT, wCatOwn, gIsB, gNotB, D.adr.injEq, Cont.pool.injEq, ixN31, ne_eq, List.map_cons, List.map_nil, wPoolOpen, wPoolClose, wPop0, wPopTo, wListOwn, wRemove, wRaise0, wRaise1, wAugOwn, wEnumL, wTru, wSlA, gCatA, gLtT, gLeT, wFrz, wChain3, wAttr, wMkF, wEnumT, wRevT, wDict0, wDict1, numD3, Nat.reduceAdd, atI0, atI1, atI2, atI3, atI4, ixN51, ixN52, ixN53, List.length_map, wNever, scal, V.int.injEq, V.str.injEq, V.bl.injEq, wSq, wNext, wBreak, wCont, wDrop, wRet, wRetN, wIfS, wAsg, wPar, wLstOwn, wAppend, wSetOwn, wIxOwn, wPeek, wRetOwn, wRetFr, wFor, wB, wNot, wAnd, wOr, wAndV, wOrV, wNotV, wIf, wChain, wNil, wCons, wCB, wTup, wLst, wNoPart, wPart, wSlT, wSlL, wSeq, wRng1, wRng2, wZip, wName, wNilT, wConsT, wTupT, wYes, wNeg, wVar, wC, wOp, wcNil, wcCons, wcOwn, wCall, wCallOwn, slots, cellsOf, OwnArgs, putBack, g2I, g2IC, gLen, gAbs, gGcd, gInt1, gTupleOf, gListOf, gIx, gCatT, gCat, gEq, gNe, gIsN, gNotN, scD, seqD_t, seqD_l, seqD_f, isNonD, List.nodup_cons, List.mem_cons, List.not_mem_nil, or_false, not_false_eq_true, Nat.reduceEqDiff, L3.Keeps, ends, wipeD, List.replicate, List.cons_append, List.nil_append, List.append_nil, List.getElem?_cons_zero, List.getElem?_cons_succ, List.set_cons_zero, List.set_cons_succ, List.getD_cons_zero, List.getD_cons_succ, List.length_cons, List.length_nil, List.nodup_nil, Option.some.injEq, Cell.dat.injEq, Cell.own.injEq, Cont.lst.injEq, D.bl.injEq, D.int.injEq, D.str.injEq, D.tup.injEq, D.lst.injEq, Arg.d.injEq, List.cons.injEq, exists_and_left, exists_and_right, exists_eq_left', exists_eq_left, exists_eq_right, exists_eq_right', exists_eq, exists_eq', and_true, true_and, and_assoc, and_self, exists_const, reduceCtorEq, web_wE, web_pE, webD_inj]
  exact hq
theorem ok_law (T : Txt K mg) {f : Addr} {kV doc pm cdv ct oc : Value} {an od : Option Addr} {osl : Array (Option Value)} (lk : K.lookup f = some ⟨oc, od, .func (PySem.W.fnOf "law" "law" (defArgs s_law) (defBody s_law) (defScope s_law) .none kV doc pm an cdv ct), osl⟩) (hcd : PySem.W.codeIn K cdv "law" = true) :
    FnOk P w K mg base (L2.CX P w) 10 f (PySem.W.fnOf "law" "law" (defArgs s_law) (defBody s_law) (defScope s_law) .none kV doc pm an cdv ct) ["script"] (spOf K 1 (fs_law K T.Z)) := by
  refine def_okC lk hcd sc_law (wb := w_law K T.Z) pure_law ?_
  intro A outer s H E hr tk
  exact ⟨_, (pss_cons (ps_set (i := 1) sc_law.nd rfl (by first | exact Or.inl rfl | exact Or.inr rfl) (pe_callS (ok__law_tape T) (hr.mono (by decide)) rfl T.g__law_tape T.k__law_tape T.b__law_tape (fun σ => passAt tk σ) (pa_cons (pv 0) pa_nil)))
      (pss_cons (ps_set (i := 2) sc_law.nd rfl (by first | exact Or.inl rfl | exact Or.inr rfl) (pe_op op_add pe_int (pe_callS (ok__law_pick T) (hr.mono (by decide)) rfl T.g__law_pick T.k__law_pick T.b__law_pick (fun σ => passAt tk σ) (pa_cons (pv 1) (pa_cons pe_int pa_nil)))))
      (pss_cons (ps_set (i := 3) sc_law.nd rfl (by first | exact Or.inl rfl | exact Or.inr rfl) (pe_op op_add pe_int (pe_callS (ok__law_pick T) (hr.mono (by decide)) rfl T.g__law_pick T.k__law_pick T.b__law_pick (fun σ => passAt tk σ) (pa_cons (pv 1) (pa_cons pe_int pa_nil)))))
      (pss_cons (ps_set (i := 4) sc_law.nd rfl (by first | exact Or.inl rfl | exact Or.inr rfl) (pe_make T.cm_Web (ok_Web__init__ T) (hr.mono (by decide)) rfl T.gc_Web T.b_Web__init__ .nil (passF tk) (pa_cons (pe_op (op_or op_repT op_repT1) (pe_tup (pa_cons pe_int pa_nil)) (pe_op op_add (pv 2) pe_int)) (pa_cons (pe_callTy call_tuple_of (by rfl) T.z_tuple (by decide +kernel) (pa_cons (pe_lc (own := [("k", 5)]) (g := (gName 5)) (tt := tYes) (te := (tTup (tCons (tC (.int 0)) (tCons (tOp rAddI (tVar 5) (tC (.int 1))) (tCons (tTup (tCons (tTup (tCons (tVar 3) (tCons (tC (.int 1)) tNil))) tNil)) tNil))))) rfl sc_law.nd (pi_range1 (by rfl) T.z_range (pa_cons (pv 2) pa_nil)) (blkOk_by (N := ["script", "tape", "many", "step", "star", "k", "turn", "steps", "row", "wide", "list_here", "due", "ring"]) (sc := defScope s_law) (by decide +kernel)) (fun _ _ _ _ _ => (pg_name (i := 5) sc_law.nd rfl (by first | exact Or.inl rfl | exact Or.inr rfl))) (fun _ _ _ _ _ => pts_nil) (fun _ _ _ _ _ => (pe_tup (pa_cons pe_int (pa_cons (pe_op op_add (pv 5) pe_int) (pa_cons (pe_tup (pa_cons (pe_tup (pa_cons (pv 3) (pa_cons pe_int pa_nil))) pa_nil)) pa_nil)))))) pa_nil)) pa_nil))))
      (pss_cons (ps_if (pt_cmpR (op_neD hr.units) (pe_callS (ok_calm_web T) (hr.mono (by decide)) rfl T.g_calm_web T.k_calm_web T.b_calm_web (fun σ => passAt tk σ) (pa_cons (pv 4) pa_nil)) (pe_cmpR op_lt (pe_op op_add (pv 2) pe_int) (pe_op op_mulA pe_int (pv 3)) (nomark _)) (nomark _))
        (pss_one (ps_ret pe_bl))
        pss_nil)
      (pss_cons (ps_for (passes_of rfl) rfl (pi_range1 (by rfl) T.z_range (pa_cons pe_int pa_nil)) (pg_name (i := 6) sc_law.nd rfl (by first | exact Or.inl rfl | exact Or.inr rfl))
        (pss_one (ps_if (pt_not (pt_val (pe_callS (ok__law_two_right T) (hr.mono (by decide)) rfl T.g__law_two_right T.k__law_two_right T.b__law_two_right (fun σ => passAt tk σ) (pa_cons (pv 1) pa_nil))))
        (pss_one (ps_ret pe_bl))
        pss_nil)))
      (pss_cons (ps_set (i := 7) sc_law.nd rfl (by first | exact Or.inl rfl | exact Or.inr rfl) (pe_tup (pa_cons (pe_tup (pa_cons pe_int (pa_cons pe_int pa_nil))) (pa_cons (pe_tup (pa_cons pe_int (pa_cons pe_int pa_nil))) (pa_cons (pe_tup (pa_cons pe_int (pa_cons pe_int pa_nil))) pa_nil)))))
      (pss_cons (ps_set (i := 8) sc_law.nd rfl (by first | exact Or.inl rfl | exact Or.inr rfl) (pe_op op_add pe_int (pe_callS (ok__law_pick T) (hr.mono (by decide)) rfl T.g__law_pick T.k__law_pick T.b__law_pick (fun σ => passAt tk σ) (pa_cons (pv 1) (pa_cons pe_int pa_nil)))))
      (pss_cons (ps_if (pt_cmpR (op_neD hr.units) (pe_callS (ok_calm_web T) (hr.mono (by decide)) rfl T.g_calm_web T.k_calm_web T.b_calm_web (fun σ => passAt tk σ) (pa_cons (pe_make T.cm_Web (ok_Web__init__ T) (hr.mono (by decide)) rfl T.gc_Web T.b_Web__init__ .nil (passF tk) (pa_cons (pe_op (op_or op_repT op_repT1) (pe_tup (pa_cons pe_int pa_nil)) (pv 8)) (pa_cons (pe_callTy call_tuple_of (by rfl) T.z_tuple (by decide +kernel) (pa_cons (pe_lc (own := [("k", 5)]) (g := (gName 5)) (tt := tYes) (te := (tTup (tCons (tVar 5) (tCons (tOp rAddI (tVar 5) (tC (.int 1))) (tCons (tVar 7) tNil))))) rfl sc_law.nd (pi_range1 (by rfl) T.z_range (pa_cons (pe_op op_sub (pv 8) pe_int) pa_nil)) (blkOk_by (N := ["script", "tape", "many", "step", "star", "k", "turn", "steps", "row", "wide", "list_here", "due", "ring"]) (sc := defScope s_law) (by decide +kernel)) (fun _ _ _ _ _ => (pg_name (i := 5) sc_law.nd rfl (by first | exact Or.inl rfl | exact Or.inr rfl))) (fun _ _ _ _ _ => pts_nil) (fun _ _ _ _ _ => (pe_tup (pa_cons (pv 5) (pa_cons (pe_op op_add (pv 5) pe_int) (pa_cons (pv 7) pa_nil)))))) pa_nil)) pa_nil))) pa_nil)) (pe_cmpR op_lt (pv 8) pe_int (nomark _)) (nomark _))
        (pss_one (ps_ret pe_bl))
        pss_nil)
      (pss_cons (ps_set (i := 9) sc_law.nd rfl (by first | exact Or.inl rfl | exact Or.inr rfl) (pe_tup (pa_cons (pe_tup (pa_cons pe_int (pa_cons pe_int pa_nil))) (pa_cons (pe_tup (pa_cons pe_int (pa_cons pe_int pa_nil))) (pa_cons (pe_tup (pa_cons pe_int (pa_cons pe_int pa_nil))) pa_nil)))))
      (pss_cons (ps_for (passes_of rfl) rfl (pi_seq (pe_lst (pa_cons (pe_tup (pa_cons (pv 7) (pa_cons pe_bl pa_nil))) (pa_cons (pe_tup (pa_cons (pv 9) (pa_cons pe_bl pa_nil))) pa_nil)))) (pg_tup (by rfl) (pgs_cons (pg_name (i := 10) sc_law.nd rfl (by first | exact Or.inl rfl | exact Or.inr rfl)) (pgs_cons (pg_name (i := 11) sc_law.nd rfl (by first | exact Or.inl rfl | exact Or.inr rfl)) pgs_nil)))
        (pss_cons (ps_set (i := 12) sc_law.nd rfl (by first | exact Or.inl rfl | exact Or.inr rfl) (pe_tup (pa_cons (pe_tup (pa_cons pe_int (pa_cons pe_int (pa_cons (pv 10) pa_nil)))) (pa_cons (pe_tup (pa_cons pe_int (pa_cons pe_int (pa_cons (pv 10) pa_nil)))) (pa_cons (pe_tup (pa_cons pe_int (pa_cons pe_int (pa_cons (pv 10) pa_nil)))) (pa_cons (pe_tup (pa_cons pe_int (pa_cons pe_int (pa_cons (pv 10) pa_nil)))) pa_nil))))))
      (pss_one (ps_if (pt_cmpR (op_neD hr.units) (pe_callS (ok_calm_web T) (hr.mono (by decide)) rfl T.g_calm_web T.k_calm_web T.b_calm_web (fun σ => passAt tk σ) (pa_cons (pe_make T.cm_Web (ok_Web__init__ T) (hr.mono (by decide)) rfl T.gc_Web T.b_Web__init__ .nil (passF tk) (pa_cons (pe_op (op_or op_repT op_repT1) (pe_tup (pa_cons pe_int pa_nil)) pe_int) (pa_cons (pv 12) pa_nil))) pa_nil)) (pv 11) (nomark _))
        (pss_one (ps_ret pe_bl))
        pss_nil))))
      (pss_one (ps_ret pe_bl))))))))))))),
    (ds_seq (ds_callOwn (i := 1) (n := 1) (fs := fs__law_tape K) (dac_cons (de_var 0) dac_nil))
      (ds_seq (ds_asg (de_op o_add de_int (de_call (n := 2) (fs := fs__law_pick K) (dac_own (j := 1) (dac_cons de_int dac_nil)))) (dg_name 2))
      (ds_seq (ds_asg (de_op o_add de_int (de_call (n := 2) (fs := fs__law_pick K) (dac_own (j := 1) (dac_cons de_int dac_nil)))) (dg_name 3))
      (ds_seq (ds_asg (de_makeI (n := 2) (fs := fs_Web__init__ K T.Z) (da_cons (de_op o_repT1 (de_tup (da_cons de_int da_nil)) (de_op o_add (de_var 2) de_int)) (da_cons (de_cb o_tupleOf (da_cons (de_lc (vs := [5]) (wI := (wRng1 (wCons (wVar 2) wNil))) (wg := (wName 5)) (wt := wYes) (we := (wTup (wCons (wC (.int 0)) (wCons (wOp gAddI (wVar 5) (wC (.int 1))) (wCons (wTup (wCons (wTup (wCons (wVar 3) (wCons (wC (.int 1)) wNil))) wNil)) wNil))))) (di_rng1 (da_cons (de_var 2) da_nil)) (dg_name 5) dt_yes (de_tup (da_cons de_int (da_cons (de_op o_add (de_var 5) de_int) (da_cons (de_tup (da_cons (de_tup (da_cons (de_var 3) (da_cons de_int da_nil))) da_nil)) da_nil)))) (by decide)) da_nil)) da_nil))) (dg_name 4))
      (ds_seq (ds_if (dt_B (de_op o_neD (de_call (n := 1) (fs := fs_calm_web K T.Z) (dac_cons (de_var 4) dac_nil)) (de_op o_lt (de_op o_add (de_var 2) de_int) (de_op o_mulA de_int (de_var 3))))) (ds_ret de_bl) ds_nil)
      (ds_seq (ds_for (wI := (wRng1 (wCons (wC (.int 4)) wNil))) (wg := (wName 6)) (wb := (wIfS (wNot (wB (wCall 1 (fs__law_two_right K T.Z) (wcOwn 1 wcNil)))) (wRet (wC (.bl false))) wNext)) (di_rng1 (da_cons de_int da_nil)) (dg_name 6) (ds_if (dt_not (dt_B (de_call (n := 1) (fs := fs__law_two_right K T.Z) (dac_own (j := 1) dac_nil)))) (ds_ret de_bl) ds_nil))
      (ds_seq (ds_asg (de_tup (da_cons (de_tup (da_cons de_int (da_cons de_int da_nil))) (da_cons (de_tup (da_cons de_int (da_cons de_int da_nil))) (da_cons (de_tup (da_cons de_int (da_cons de_int da_nil))) da_nil)))) (dg_name 7))
      (ds_seq (ds_asg (de_op o_add de_int (de_call (n := 2) (fs := fs__law_pick K) (dac_own (j := 1) (dac_cons de_int dac_nil)))) (dg_name 8))
      (ds_seq (ds_if (dt_B (de_op o_neD (de_call (n := 1) (fs := fs_calm_web K T.Z) (dac_cons (de_makeI (n := 2) (fs := fs_Web__init__ K T.Z) (da_cons (de_op o_repT1 (de_tup (da_cons de_int da_nil)) (de_var 8)) (da_cons (de_cb o_tupleOf (da_cons (de_lc (vs := [5]) (wI := (wRng1 (wCons (wOp gSubI (wVar 8) (wC (.int 1))) wNil))) (wg := (wName 5)) (wt := wYes) (we := (wTup (wCons (wVar 5) (wCons (wOp gAddI (wVar 5) (wC (.int 1))) (wCons (wVar 7) wNil))))) (di_rng1 (da_cons (de_op o_sub (de_var 8) de_int) da_nil)) (dg_name 5) dt_yes (de_tup (da_cons (de_var 5) (da_cons (de_op o_add (de_var 5) de_int) (da_cons (de_var 7) da_nil)))) (by decide)) da_nil)) da_nil))) dac_nil)) (de_op o_lt (de_var 8) de_int))) (ds_ret de_bl) ds_nil)
      (ds_seq (ds_asg (de_tup (da_cons (de_tup (da_cons de_int (da_cons de_int da_nil))) (da_cons (de_tup (da_cons de_int (da_cons de_int da_nil))) (da_cons (de_tup (da_cons de_int (da_cons de_int da_nil))) da_nil)))) (dg_name 9))
      (ds_seq (ds_for (wI := (wSeq (wLst (wCons (wTup (wCons (wVar 7) (wCons (wC (.bl false)) wNil))) (wCons (wTup (wCons (wVar 9) (wCons (wC (.bl true)) wNil))) wNil))))) (wg := (wTupT 2 (wConsT (wName 10) (wConsT (wName 11) wNilT)))) (wb := (wSq (wAsg (wTup (wCons (wTup (wCons (wC (.int 0)) (wCons (wC (.int 1)) (wCons (wVar 10) wNil)))) (wCons (wTup (wCons (wC (.int 1)) (wCons (wC (.int 2)) (wCons (wVar 10) wNil)))) (wCons (wTup (wCons (wC (.int 2)) (wCons (wC (.int 3)) (wCons (wVar 10) wNil)))) (wCons (wTup (wCons (wC (.int 0)) (wCons (wC (.int 3)) (wCons (wVar 10) wNil)))) wNil))))) (wName 12))
  (wIfS (wB (wOp gNeD (wCall 1 (fs_calm_web K T.Z) (wcCons (wMkI T.Z.C_Web 2 (fs_Web__init__ K T.Z) (wCons (wOp gRepT1 (wTup (wCons (wC (.int 1)) wNil)) (wC (.int 4))) (wCons (wVar 12) wNil))) wcNil)) (wVar 11))) (wRet (wC (.bl false))) wNext))) (di_seq (de_lst (da_cons (de_tup (da_cons (de_var 7) (da_cons de_bl da_nil))) (da_cons (de_tup (da_cons (de_var 9) (da_cons de_bl da_nil))) da_nil)))) (dg_tup (n := 2) (dgs_cons (dg_name 10) (dgs_cons (dg_name 11) dgs_nil))) (ds_seq (ds_asg (de_tup (da_cons (de_tup (da_cons de_int (da_cons de_int (da_cons (de_var 10) da_nil)))) (da_cons (de_tup (da_cons de_int (da_cons de_int (da_cons (de_var 10) da_nil)))) (da_cons (de_tup (da_cons de_int (da_cons de_int (da_cons (de_var 10) da_nil)))) (da_cons (de_tup (da_cons de_int (da_cons de_int (da_cons (de_var 10) da_nil)))) da_nil))))) (dg_name 12))
      (ds_if (dt_B (de_op o_neD (de_call (n := 1) (fs := fs_calm_web K T.Z) (dac_cons (de_makeI (n := 2) (fs := fs_Web__init__ K T.Z) (da_cons (de_op o_repT1 (de_tup (da_cons de_int da_nil)) de_int) (da_cons (de_var 12) da_nil))) dac_nil)) (de_var 11))) (ds_ret de_bl) ds_nil)))
      (ds_ret de_bl))))))))))))⟩
end
end K55

namespace K55
open PySem PySem.Spec PyProof.Rows L2 L3
/-! ## the law's own head -/
def noTbl (H : Hp) : Hp := fun b => match H b with | some (.tbl _) => none | o => o
theorem noTbl_same {H : Hp} : Same (noTbl H) H := fun b o e => by
  unfold noTbl at e
  split at e
  · cases e
  · exact e
theorem noTbl_nt {H : Hp} : ∀ b o, noTbl H b = some o → NT o := fun b o e ps z => by
  subst z
  unfold noTbl at e
  split at e
  · cases e
  · rename_i h
    exact h ps e
theorem noTbl_seq {K : PySem.W.Frag} {H : Hp} {a : Addr} {xs : List V} (h : SqL K H a xs) : SqL K (noTbl H) a xs := by
  rcases h with (h | ⟨o, h⟩) | h
  · exact .inl (.inl (by unfold noTbl; rw [h]))
  · exact .inl (.inr ⟨o, by unfold noTbl; rw [h]⟩)
  · exact .inr h
theorem law_at {l : PySem.W.OpenLaw} {w : World} {K : PySem.W.Frag} {mg : Str → Option Value} {h : Heap} (T : Txt K mg) (L : LawF K T.Z) {f : Addr} {kV doc pm cdv ct oc : Value} {an od : Option Addr} {osl : Array (Option Value)}
    (lk : K.lookup f = some ⟨oc, od, .func (PySem.W.fnOf "law" "law" (defArgs s_law) (defBody s_law) (defScope s_law) .none kV doc pm an cdv ct), osl⟩) (hcd : PySem.W.codeIn K cdv "law" = true) : LamX.LawAtS l w K (L2.CX l.prog w) 10 63 "script" mg f h := by
  letI TB : TabT := ⟨[]⟩
  refine ⟨_, [], spOf K 1 (fs_law K T.Z), fun p hp => (nomatch hp), fun p hp => (nomatch hp), fun p hp => (nomatch hp), fun s v => .of_eq rfl, fun H a ns hn _ _ hS => ?_, fun base _ _ _ => ok_law T lk hcd⟩
  refine ⟨rfl, noTbl H, [.dat (.fl (ns.map D.int))], fun d _ => d = .bl true, fun _ _ => False, ⟨⟨fun p hp => (nomatch hp), noTbl_nt⟩, noTbl_same, rfl, fun i s c h1 h2 => ?_, fun i c h1 => ?_, fun i j c d a h1 _ f _ => ?_⟩, ⟨ns, rfl, by omega, L, rfl⟩, fun v d cs' F' H' _ _ _ r e => ?_, fun _ _ _ _ _ _ _ _ _ _ z => z⟩
  · match i, h1, h2 with
    | 0, h1, h2 =>
      cases h1; cases h2
      exact ⟨.ref a, rfl, .fl (noTbl_seq hS) Reps.ints⟩
    | i + 1, h1, h2 => simp at h1
  · match i, h1 with
    | 0, h1 => cases h1; exact trivial
    | i + 1, h1 => simp at h1
  · match i, h1 with
    | 0, h1 => cases h1; exact f.elim
    | i + 1, h1 => simp at h1
  · subst e
    exact r.bl_of
theorem cx_none {P : Program} : ∀ (w : World) (H : Hp) (s : Shared) (e : Value) (s' : Shared), L2.CX P w [] H s (fun _ _ _ => False) e s' → False := fun w H s e s' ⟨_, _, _, _, _, _, _, _, _, _, _, _, z⟩ => z
theorem kit_bt {K : PySem.W.Frag} {C : Addr} {T : String} {b : Bool} (h1 : PySem.W.kitMeta T = true) (h : PySem.W.subIn K (.ref C) (.type T) = some b) : PySem.W.kitOne K (.ref C) (.type T) = some b := by
  show (if (Value.ref C == Value.type T) = true then some true else if PySem.W.kitMeta T = true then PySem.W.subIn K (.ref C) (.type T) else none) = some b
  have e : (Value.ref C == Value.type T) = false := rfl
  rw [e, if_neg (by decide), if_pos h1]
  exact h
theorem kit_cr {K : PySem.W.Frag} {C D : Addr} {b : Bool} (h1 : PySem.W.isClsIn K D = true) (h2 : PySem.W.typeIn K (.ref D) = some (.type "type")) (h : PySem.W.subIn K (.ref C) (.ref D) = some b) : PySem.W.kitCls K (.ref C) (.ref D) = some b := by
  have e2 : ((PySem.W.clsIn K D).isSome && PySem.W.typeIn K (.ref D) == some (.type "type")) = true := by
    have h1' : (PySem.W.clsIn K D).isSome = true := h1
    rw [h1', h2]
    rfl
  show (if ((PySem.W.clsIn K D).isSome && PySem.W.typeIn K (.ref D) == some (.type "type")) = true then PySem.W.subIn K (.ref C) (.ref D) else none) = some b
  rw [if_pos e2]
  exact h
theorem kit_rt {K : PySem.W.Frag} {C D : Addr} (h1 : PySem.W.isClsIn K D = true) (h2 : PySem.W.typeIn K (.ref D) = some (.type "type")) (h : PySem.W.subIn K (.ref C) (.ref D) = some true) : PySem.W.kitOne K (.ref C) (.ref D) = some true := by
  show (if (Value.ref C == Value.ref D) = true then some true else PySem.W.kitCls K (.ref C) (.ref D)) = some true
  rw [kit_cr h1 h2 h]
  split <;> rfl
theorem kit_rf {K : PySem.W.Frag} {C D : Addr} (hne : (Value.ref C == Value.ref D) = false) (h1 : PySem.W.isClsIn K D = true) (h2 : PySem.W.typeIn K (.ref D) = some (.type "type")) (h : PySem.W.subIn K (.ref C) (.ref D) = some false) : PySem.W.kitOne K (.ref C) (.ref D) = some false := by
  show (if (Value.ref C == Value.ref D) = true then some true else PySem.W.kitCls K (.ref C) (.ref D)) = some false
  rw [kit_cr h1 h2 h, hne]
  rfl
section
variable {K : PySem.W.Frag} {mg : Str → Option Value}
open PySem.W PySem.Calls PySem.HandSPX in
theorem all_mk {l : PySem.W.OpenLaw} {w : World} {h : Heap} {fa : Addr} (X : K.In h) (G : h.Ns mainGlobals mg) (hfa : mg "law" = some (.ref fa))
    {C_Web : Addr}
    {C_BadWeb : Addr}
    {C_TooMany : Addr}
    {f_is_integer : Addr} {od_is_integer an_is_integer : Option Addr} {sl_is_integer : Array (Option Value)} {oc_is_integer kV_is_integer dc_is_integer pm_is_integer cd_is_integer ct_is_integer : Value}
    {f_is_between : Addr} {od_is_between an_is_between : Option Addr} {sl_is_between : Array (Option Value)} {oc_is_between kV_is_between dc_is_between pm_is_between cd_is_between ct_is_between : Value}
    {f_is_tuple_of : Addr} {od_is_tuple_of an_is_tuple_of : Option Addr} {sl_is_tuple_of : Array (Option Value)} {oc_is_tuple_of kV_is_tuple_of dc_is_tuple_of pm_is_tuple_of cd_is_tuple_of ct_is_tuple_of : Value}
    {f_is_fraction : Addr} {od_is_fraction an_is_fraction : Option Addr} {sl_is_fraction : Array (Option Value)} {oc_is_fraction kV_is_fraction dc_is_fraction pm_is_fraction cd_is_fraction ct_is_fraction : Value}
    {f_at_most : Addr} {od_at_most an_at_most : Option Addr} {sl_at_most : Array (Option Value)} {oc_at_most kV_at_most dc_at_most pm_at_most cd_at_most ct_at_most : Value}
    {f_is_threshold : Addr} {od_is_threshold an_is_threshold : Option Addr} {sl_is_threshold : Array (Option Value)} {oc_is_threshold kV_is_threshold dc_is_threshold pm_is_threshold cd_is_threshold ct_is_threshold : Value}
    {f_is_list : Addr} {od_is_list an_is_list : Option Addr} {sl_is_list : Array (Option Value)} {oc_is_list kV_is_list dc_is_list pm_is_list cd_is_list ct_is_list : Value}
    {f_is_width : Addr} {od_is_width an_is_width : Option Addr} {sl_is_width : Array (Option Value)} {oc_is_width kV_is_width dc_is_width pm_is_width cd_is_width ct_is_width : Value}
    {f_is_widths : Addr} {od_is_widths an_is_widths : Option Addr} {sl_is_widths : Array (Option Value)} {oc_is_widths kV_is_widths dc_is_widths pm_is_widths cd_is_widths ct_is_widths : Value}
    {f_is_pipe : Addr} {od_is_pipe an_is_pipe : Option Addr} {sl_is_pipe : Array (Option Value)} {oc_is_pipe kV_is_pipe dc_is_pipe pm_is_pipe cd_is_pipe ct_is_pipe : Value}
    {f_Web__init__ : Addr} {od_Web__init__ an_Web__init__ : Option Addr} {sl_Web__init__ : Array (Option Value)} {oc_Web__init__ kV_Web__init__ dc_Web__init__ pm_Web__init__ cd_Web__init__ ct_Web__init__ : Value}
    {f_nets_by : Addr} {od_nets_by an_nets_by : Option Addr} {sl_nets_by : Array (Option Value)} {oc_nets_by kV_nets_by dc_nets_by pm_nets_by cd_nets_by ct_nets_by : Value}
    {f_check_flows : Addr} {od_check_flows an_check_flows : Option Addr} {sl_check_flows : Array (Option Value)} {oc_check_flows kV_check_flows dc_check_flows pm_check_flows cd_check_flows ct_check_flows : Value}
    {f_all_flows : Addr} {od_all_flows an_all_flows : Option Addr} {sl_all_flows : Array (Option Value)} {oc_all_flows kV_all_flows dc_all_flows pm_all_flows cd_all_flows ct_all_flows : Value}
    {f_in_grains : Addr} {od_in_grains an_in_grains : Option Addr} {sl_in_grains : Array (Option Value)} {oc_in_grains kV_in_grains dc_in_grains pm_in_grains cd_in_grains ct_in_grains : Value}
    {f_check_widths : Addr} {od_check_widths an_check_widths : Option Addr} {sl_check_widths : Array (Option Value)} {oc_check_widths kV_check_widths dc_check_widths pm_check_widths cd_check_widths ct_check_widths : Value}
    {f_share : Addr} {od_share an_share : Option Addr} {sl_share : Array (Option Value)} {oc_share kV_share dc_share pm_share cd_share ct_share : Value}
    {f_shares_of : Addr} {od_shares_of an_shares_of : Option Addr} {sl_shares_of : Array (Option Value)} {oc_shares_of kV_shares_of dc_shares_of pm_shares_of cd_shares_of ct_shares_of : Value}
    {f_window : Addr} {od_window an_window : Option Addr} {sl_window : Array (Option Value)} {oc_window kV_window dc_window pm_window cd_window ct_window : Value}
    {f_leeways : Addr} {od_leeways an_leeways : Option Addr} {sl_leeways : Array (Option Value)} {oc_leeways kV_leeways dc_leeways pm_leeways cd_leeways ct_leeways : Value}
    {f_least_places : Addr} {od_least_places an_least_places : Option Addr} {sl_least_places : Array (Option Value)} {oc_least_places kV_least_places dc_least_places pm_least_places cd_least_places ct_least_places : Value}
    {f_standing_of : Addr} {od_standing_of an_standing_of : Option Addr} {sl_standing_of : Array (Option Value)} {oc_standing_of kV_standing_of dc_standing_of pm_standing_of cd_standing_of ct_standing_of : Value}
    {f_runs : Addr} {od_runs an_runs : Option Addr} {sl_runs : Array (Option Value)} {oc_runs kV_runs dc_runs pm_runs cd_runs ct_runs : Value}
    {f_stills : Addr} {od_stills an_stills : Option Addr} {sl_stills : Array (Option Value)} {oc_stills kV_stills dc_stills pm_stills cd_stills ct_stills : Value}
    {f_calm_web : Addr} {od_calm_web an_calm_web : Option Addr} {sl_calm_web : Array (Option Value)} {oc_calm_web kV_calm_web dc_calm_web pm_calm_web cd_calm_web ct_calm_web : Value}
    {f__law_tape : Addr} {od__law_tape an__law_tape : Option Addr} {sl__law_tape : Array (Option Value)} {oc__law_tape kV__law_tape dc__law_tape pm__law_tape cd__law_tape ct__law_tape : Value}
    {f__law_pick : Addr} {od__law_pick an__law_pick : Option Addr} {sl__law_pick : Array (Option Value)} {oc__law_pick kV__law_pick dc__law_pick pm__law_pick cd__law_pick ct__law_pick : Value}
    {f__law_lowest : Addr} {od__law_lowest an__law_lowest : Option Addr} {sl__law_lowest : Array (Option Value)} {oc__law_lowest kV__law_lowest dc__law_lowest pm__law_lowest cd__law_lowest ct__law_lowest : Value}
    {f__law_grains : Addr} {od__law_grains an__law_grains : Option Addr} {sl__law_grains : Array (Option Value)} {oc__law_grains kV__law_grains dc__law_grains pm__law_grains cd__law_grains ct__law_grains : Value}
    {f__law_two_right : Addr} {od__law_two_right an__law_two_right : Option Addr} {sl__law_two_right : Array (Option Value)} {oc__law_two_right kV__law_two_right dc__law_two_right pm__law_two_right cd__law_two_right ct__law_two_right : Value}
    {nm_BadWeb qn_BadWeb : Str} {N_BadWeb : Addr} {bs_BadWeb bm_BadWeb : List Value} {sn_BadWeb : List Str} {sub_BadWeb : List Value} {ab_BadWeb : Bool} {col_BadWeb : Option Bool} {dd_BadWeb : Option Addr} {m0_BadWeb m1_BadWeb m2_BadWeb m3_BadWeb m5_BadWeb : Option Value}
    {f_BadWeb__init__ : Addr} {od_BadWeb__init__ an_BadWeb__init__ : Option Addr} {sl_BadWeb__init__ : Array (Option Value)} {oc_BadWeb__init__ kV_BadWeb__init__ dc_BadWeb__init__ pm_BadWeb__init__ cd_BadWeb__init__ ct_BadWeb__init__ : Value}
    {nm_TooMany qn_TooMany : Str} {N_TooMany : Addr} {bs_TooMany bm_TooMany : List Value} {sn_TooMany : List Str} {sub_TooMany : List Value} {ab_TooMany : Bool} {col_TooMany : Option Bool} {dd_TooMany : Option Addr} {m0_TooMany m1_TooMany m2_TooMany m3_TooMany m5_TooMany : Option Value}
    {f_TooMany__init__ : Addr} {od_TooMany__init__ an_TooMany__init__ : Option Addr} {sl_TooMany__init__ : Array (Option Value)} {oc_TooMany__init__ kV_TooMany__init__ dc_TooMany__init__ pm_TooMany__init__ cd_TooMany__init__ ct_TooMany__init__ : Value}
    {t_MOST_BOTTOM : Tok}
    {t_MOST_PATTERNS : Tok}
    {t_MOST_PIPES : Tok}
    {t_MOST_THRESHOLDS : Tok}
    {t_MOST_TOP : Tok}
    {t_MOST_VESSELS : Tok}
    {t_MOST_WIDTH : Tok}
    {t_MOST_WIDTHS : Tok}
    {f_law : Addr} {od_law an_law : Option Addr} {sl_law : Array (Option Value)} {oc_law kV_law dc_law pm_law ct_law cd_law : Value}
    (aC_Web : PySem.W.nsIn K mainGlobals "Web" = some (some (.ref C_Web)))
    (aC_BadWeb : PySem.W.nsIn K mainGlobals "BadWeb" = some (some (.ref C_BadWeb)))
    (aC_TooMany : PySem.W.nsIn K mainGlobals "TooMany" = some (some (.ref C_TooMany)))
    (a_is_integer : PySem.W.nsIn K mainGlobals "is_integer" = some (some (.ref f_is_integer)))
    (l_is_integer : K.lookup f_is_integer = some ⟨oc_is_integer, od_is_integer, .func (PySem.W.fnOf "is_integer" "is_integer" (defArgs s_is_integer) (defBody s_is_integer) (defScope s_is_integer) .none kV_is_integer dc_is_integer pm_is_integer an_is_integer cd_is_integer ct_is_integer), sl_is_integer⟩)
    (c_is_integer : PySem.W.codeIn K cd_is_integer "is_integer" = true)
    (k_is_integer : PySem.W.keepIn K (.ref f_is_integer) = true)
    (a_is_between : PySem.W.nsIn K mainGlobals "is_between" = some (some (.ref f_is_between)))
    (l_is_between : K.lookup f_is_between = some ⟨oc_is_between, od_is_between, .func (PySem.W.fnOf "is_between" "is_between" (defArgs s_is_between) (defBody s_is_between) (defScope s_is_between) .none kV_is_between dc_is_between pm_is_between an_is_between cd_is_between ct_is_between), sl_is_between⟩)
    (c_is_between : PySem.W.codeIn K cd_is_between "is_between" = true)
    (k_is_between : PySem.W.keepIn K (.ref f_is_between) = true)
    (a_is_tuple_of : PySem.W.nsIn K mainGlobals "is_tuple_of" = some (some (.ref f_is_tuple_of)))
    (l_is_tuple_of : K.lookup f_is_tuple_of = some ⟨oc_is_tuple_of, od_is_tuple_of, .func (PySem.W.fnOf "is_tuple_of" "is_tuple_of" (defArgs s_is_tuple_of) (defBody s_is_tuple_of) (defScope s_is_tuple_of) .none kV_is_tuple_of dc_is_tuple_of pm_is_tuple_of an_is_tuple_of cd_is_tuple_of ct_is_tuple_of), sl_is_tuple_of⟩)
    (c_is_tuple_of : PySem.W.codeIn K cd_is_tuple_of "is_tuple_of" = true)
    (k_is_tuple_of : PySem.W.keepIn K (.ref f_is_tuple_of) = true)
    (a_is_fraction : PySem.W.nsIn K mainGlobals "is_fraction" = some (some (.ref f_is_fraction)))
    (l_is_fraction : K.lookup f_is_fraction = some ⟨oc_is_fraction, od_is_fraction, .func (PySem.W.fnOf "is_fraction" "is_fraction" (defArgs s_is_fraction) (defBody s_is_fraction) (defScope s_is_fraction) .none kV_is_fraction dc_is_fraction pm_is_fraction an_is_fraction cd_is_fraction ct_is_fraction), sl_is_fraction⟩)
    (c_is_fraction : PySem.W.codeIn K cd_is_fraction "is_fraction" = true)
    (k_is_fraction : PySem.W.keepIn K (.ref f_is_fraction) = true)
    (a_at_most : PySem.W.nsIn K mainGlobals "at_most" = some (some (.ref f_at_most)))
    (l_at_most : K.lookup f_at_most = some ⟨oc_at_most, od_at_most, .func (PySem.W.fnOf "at_most" "at_most" (defArgs s_at_most) (defBody s_at_most) (defScope s_at_most) .none kV_at_most dc_at_most pm_at_most an_at_most cd_at_most ct_at_most), sl_at_most⟩)
    (c_at_most : PySem.W.codeIn K cd_at_most "at_most" = true)
    (k_at_most : PySem.W.keepIn K (.ref f_at_most) = true)
    (a_is_threshold : PySem.W.nsIn K mainGlobals "is_threshold" = some (some (.ref f_is_threshold)))
    (l_is_threshold : K.lookup f_is_threshold = some ⟨oc_is_threshold, od_is_threshold, .func (PySem.W.fnOf "is_threshold" "is_threshold" (defArgs s_is_threshold) (defBody s_is_threshold) (defScope s_is_threshold) .none kV_is_threshold dc_is_threshold pm_is_threshold an_is_threshold cd_is_threshold ct_is_threshold), sl_is_threshold⟩)
    (c_is_threshold : PySem.W.codeIn K cd_is_threshold "is_threshold" = true)
    (k_is_threshold : PySem.W.keepIn K (.ref f_is_threshold) = true)
    (a_is_list : PySem.W.nsIn K mainGlobals "is_list" = some (some (.ref f_is_list)))
    (l_is_list : K.lookup f_is_list = some ⟨oc_is_list, od_is_list, .func (PySem.W.fnOf "is_list" "is_list" (defArgs s_is_list) (defBody s_is_list) (defScope s_is_list) .none kV_is_list dc_is_list pm_is_list an_is_list cd_is_list ct_is_list), sl_is_list⟩)
    (c_is_list : PySem.W.codeIn K cd_is_list "is_list" = true)
    (k_is_list : PySem.W.keepIn K (.ref f_is_list) = true)
    (a_is_width : PySem.W.nsIn K mainGlobals "is_width" = some (some (.ref f_is_width)))
    (l_is_width : K.lookup f_is_width = some ⟨oc_is_width, od_is_width, .func (PySem.W.fnOf "is_width" "is_width" (defArgs s_is_width) (defBody s_is_width) (defScope s_is_width) .none kV_is_width dc_is_width pm_is_width an_is_width cd_is_width ct_is_width), sl_is_width⟩)
    (c_is_width : PySem.W.codeIn K cd_is_width "is_width" = true)
    (k_is_width : PySem.W.keepIn K (.ref f_is_width) = true)
    (a_is_widths : PySem.W.nsIn K mainGlobals "is_widths" = some (some (.ref f_is_widths)))
    (l_is_widths : K.lookup f_is_widths = some ⟨oc_is_widths, od_is_widths, .func (PySem.W.fnOf "is_widths" "is_widths" (defArgs s_is_widths) (defBody s_is_widths) (defScope s_is_widths) .none kV_is_widths dc_is_widths pm_is_widths an_is_widths cd_is_widths ct_is_widths), sl_is_widths⟩)
    (c_is_widths : PySem.W.codeIn K cd_is_widths "is_widths" = true)
    (k_is_widths : PySem.W.keepIn K (.ref f_is_widths) = true)
    (a_is_pipe : PySem.W.nsIn K mainGlobals "is_pipe" = some (some (.ref f_is_pipe)))
    (l_is_pipe : K.lookup f_is_pipe = some ⟨oc_is_pipe, od_is_pipe, .func (PySem.W.fnOf "is_pipe" "is_pipe" (defArgs s_is_pipe) (defBody s_is_pipe) (defScope s_is_pipe) .none kV_is_pipe dc_is_pipe pm_is_pipe an_is_pipe cd_is_pipe ct_is_pipe), sl_is_pipe⟩)
    (c_is_pipe : PySem.W.codeIn K cd_is_pipe "is_pipe" = true)
    (k_is_pipe : PySem.W.keepIn K (.ref f_is_pipe) = true)
    (a_Web__init__ : PySem.W.findIn K (.ref C_Web) "__init__" = some (some (.ref f_Web__init__)))
    (l_Web__init__ : K.lookup f_Web__init__ = some ⟨oc_Web__init__, od_Web__init__, .func (PySem.W.fnOf "__init__" "Web.__init__" (defArgs s_Web__init__) (defBody s_Web__init__) (defScope s_Web__init__) .none kV_Web__init__ dc_Web__init__ pm_Web__init__ an_Web__init__ cd_Web__init__ ct_Web__init__), sl_Web__init__⟩)
    (c_Web__init__ : PySem.W.codeIn K cd_Web__init__ "Web.__init__" = true)
    (k_Web__init__ : PySem.W.keepIn K (.ref f_Web__init__) = true)
    (a_nets_by : PySem.W.nsIn K mainGlobals "nets_by" = some (some (.ref f_nets_by)))
    (l_nets_by : K.lookup f_nets_by = some ⟨oc_nets_by, od_nets_by, .func (PySem.W.fnOf "nets_by" "nets_by" (defArgs s_nets_by) (defBody s_nets_by) (defScope s_nets_by) .none kV_nets_by dc_nets_by pm_nets_by an_nets_by cd_nets_by ct_nets_by), sl_nets_by⟩)
    (c_nets_by : PySem.W.codeIn K cd_nets_by "nets_by" = true)
    (k_nets_by : PySem.W.keepIn K (.ref f_nets_by) = true)
    (a_check_flows : PySem.W.nsIn K mainGlobals "check_flows" = some (some (.ref f_check_flows)))
    (l_check_flows : K.lookup f_check_flows = some ⟨oc_check_flows, od_check_flows, .func (PySem.W.fnOf "check_flows" "check_flows" (defArgs s_check_flows) (defBody s_check_flows) (defScope s_check_flows) .none kV_check_flows dc_check_flows pm_check_flows an_check_flows cd_check_flows ct_check_flows), sl_check_flows⟩)
    (c_check_flows : PySem.W.codeIn K cd_check_flows "check_flows" = true)
    (k_check_flows : PySem.W.keepIn K (.ref f_check_flows) = true)
    (a_all_flows : PySem.W.nsIn K mainGlobals "all_flows" = some (some (.ref f_all_flows)))
    (l_all_flows : K.lookup f_all_flows = some ⟨oc_all_flows, od_all_flows, .func (PySem.W.fnOf "all_flows" "all_flows" (defArgs s_all_flows) (defBody s_all_flows) (defScope s_all_flows) .none kV_all_flows dc_all_flows pm_all_flows an_all_flows cd_all_flows ct_all_flows), sl_all_flows⟩)
    (c_all_flows : PySem.W.codeIn K cd_all_flows "all_flows" = true)
    (k_all_flows : PySem.W.keepIn K (.ref f_all_flows) = true)
    (a_in_grains : PySem.W.nsIn K mainGlobals "in_grains" = some (some (.ref f_in_grains)))
    (l_in_grains : K.lookup f_in_grains = some ⟨oc_in_grains, od_in_grains, .func (PySem.W.fnOf "in_grains" "in_grains" (defArgs s_in_grains) (defBody s_in_grains) (defScope s_in_grains) .none kV_in_grains dc_in_grains pm_in_grains an_in_grains cd_in_grains ct_in_grains), sl_in_grains⟩)
    (c_in_grains : PySem.W.codeIn K cd_in_grains "in_grains" = true)
    (k_in_grains : PySem.W.keepIn K (.ref f_in_grains) = true)
    (a_check_widths : PySem.W.nsIn K mainGlobals "check_widths" = some (some (.ref f_check_widths)))
    (l_check_widths : K.lookup f_check_widths = some ⟨oc_check_widths, od_check_widths, .func (PySem.W.fnOf "check_widths" "check_widths" (defArgs s_check_widths) (defBody s_check_widths) (defScope s_check_widths) .none kV_check_widths dc_check_widths pm_check_widths an_check_widths cd_check_widths ct_check_widths), sl_check_widths⟩)
    (c_check_widths : PySem.W.codeIn K cd_check_widths "check_widths" = true)
    (k_check_widths : PySem.W.keepIn K (.ref f_check_widths) = true)
    (a_share : PySem.W.nsIn K mainGlobals "share" = some (some (.ref f_share)))
    (l_share : K.lookup f_share = some ⟨oc_share, od_share, .func (PySem.W.fnOf "share" "share" (defArgs s_share) (defBody s_share) (defScope s_share) .none kV_share dc_share pm_share an_share cd_share ct_share), sl_share⟩)
    (c_share : PySem.W.codeIn K cd_share "share" = true)
    (k_share : PySem.W.keepIn K (.ref f_share) = true)
    (a_shares_of : PySem.W.nsIn K mainGlobals "shares_of" = some (some (.ref f_shares_of)))
    (l_shares_of : K.lookup f_shares_of = some ⟨oc_shares_of, od_shares_of, .func (PySem.W.fnOf "shares_of" "shares_of" (defArgs s_shares_of) (defBody s_shares_of) (defScope s_shares_of) .none kV_shares_of dc_shares_of pm_shares_of an_shares_of cd_shares_of ct_shares_of), sl_shares_of⟩)
    (c_shares_of : PySem.W.codeIn K cd_shares_of "shares_of" = true)
    (k_shares_of : PySem.W.keepIn K (.ref f_shares_of) = true)
    (a_window : PySem.W.nsIn K mainGlobals "window" = some (some (.ref f_window)))
    (l_window : K.lookup f_window = some ⟨oc_window, od_window, .func (PySem.W.fnOf "window" "window" (defArgs s_window) (defBody s_window) (defScope s_window) .none kV_window dc_window pm_window an_window cd_window ct_window), sl_window⟩)
    (c_window : PySem.W.codeIn K cd_window "window" = true)
    (k_window : PySem.W.keepIn K (.ref f_window) = true)
    (a_leeways : PySem.W.nsIn K mainGlobals "leeways" = some (some (.ref f_leeways)))
    (l_leeways : K.lookup f_leeways = some ⟨oc_leeways, od_leeways, .func (PySem.W.fnOf "leeways" "leeways" (defArgs s_leeways) (defBody s_leeways) (defScope s_leeways) .none kV_leeways dc_leeways pm_leeways an_leeways cd_leeways ct_leeways), sl_leeways⟩)
    (c_leeways : PySem.W.codeIn K cd_leeways "leeways" = true)
    (k_leeways : PySem.W.keepIn K (.ref f_leeways) = true)
    (a_least_places : PySem.W.nsIn K mainGlobals "least_places" = some (some (.ref f_least_places)))
    (l_least_places : K.lookup f_least_places = some ⟨oc_least_places, od_least_places, .func (PySem.W.fnOf "least_places" "least_places" (defArgs s_least_places) (defBody s_least_places) (defScope s_least_places) .none kV_least_places dc_least_places pm_least_places an_least_places cd_least_places ct_least_places), sl_least_places⟩)
    (c_least_places : PySem.W.codeIn K cd_least_places "least_places" = true)
    (k_least_places : PySem.W.keepIn K (.ref f_least_places) = true)
    (a_standing_of : PySem.W.nsIn K mainGlobals "standing_of" = some (some (.ref f_standing_of)))
    (l_standing_of : K.lookup f_standing_of = some ⟨oc_standing_of, od_standing_of, .func (PySem.W.fnOf "standing_of" "standing_of" (defArgs s_standing_of) (defBody s_standing_of) (defScope s_standing_of) .none kV_standing_of dc_standing_of pm_standing_of an_standing_of cd_standing_of ct_standing_of), sl_standing_of⟩)
    (c_standing_of : PySem.W.codeIn K cd_standing_of "standing_of" = true)
    (k_standing_of : PySem.W.keepIn K (.ref f_standing_of) = true)
    (a_runs : PySem.W.nsIn K mainGlobals "runs" = some (some (.ref f_runs)))
    (l_runs : K.lookup f_runs = some ⟨oc_runs, od_runs, .func (PySem.W.fnOf "runs" "runs" (defArgs s_runs) (defBody s_runs) (defScope s_runs) .none kV_runs dc_runs pm_runs an_runs cd_runs ct_runs), sl_runs⟩)
    (c_runs : PySem.W.codeIn K cd_runs "runs" = true)
    (k_runs : PySem.W.keepIn K (.ref f_runs) = true)
    (a_stills : PySem.W.nsIn K mainGlobals "stills" = some (some (.ref f_stills)))
    (l_stills : K.lookup f_stills = some ⟨oc_stills, od_stills, .func (PySem.W.fnOf "stills" "stills" (defArgs s_stills) (defBody s_stills) (defScope s_stills) .none kV_stills dc_stills pm_stills an_stills cd_stills ct_stills), sl_stills⟩)
    (c_stills : PySem.W.codeIn K cd_stills "stills" = true)
    (k_stills : PySem.W.keepIn K (.ref f_stills) = true)
    (a_calm_web : PySem.W.nsIn K mainGlobals "calm_web" = some (some (.ref f_calm_web)))
    (l_calm_web : K.lookup f_calm_web = some ⟨oc_calm_web, od_calm_web, .func (PySem.W.fnOf "calm_web" "calm_web" (defArgs s_calm_web) (defBody s_calm_web) (defScope s_calm_web) .none kV_calm_web dc_calm_web pm_calm_web an_calm_web cd_calm_web ct_calm_web), sl_calm_web⟩)
    (c_calm_web : PySem.W.codeIn K cd_calm_web "calm_web" = true)
    (k_calm_web : PySem.W.keepIn K (.ref f_calm_web) = true)
    (a__law_tape : PySem.W.nsIn K mainGlobals "_law_tape" = some (some (.ref f__law_tape)))
    (l__law_tape : K.lookup f__law_tape = some ⟨oc__law_tape, od__law_tape, .func (PySem.W.fnOf "_law_tape" "_law_tape" (defArgs s__law_tape) (defBody s__law_tape) (defScope s__law_tape) .none kV__law_tape dc__law_tape pm__law_tape an__law_tape cd__law_tape ct__law_tape), sl__law_tape⟩)
    (c__law_tape : PySem.W.codeIn K cd__law_tape "_law_tape" = true)
    (k__law_tape : PySem.W.keepIn K (.ref f__law_tape) = true)
    (a__law_pick : PySem.W.nsIn K mainGlobals "_law_pick" = some (some (.ref f__law_pick)))
    (l__law_pick : K.lookup f__law_pick = some ⟨oc__law_pick, od__law_pick, .func (PySem.W.fnOf "_law_pick" "_law_pick" (defArgs s__law_pick) (defBody s__law_pick) (defScope s__law_pick) .none kV__law_pick dc__law_pick pm__law_pick an__law_pick cd__law_pick ct__law_pick), sl__law_pick⟩)
    (c__law_pick : PySem.W.codeIn K cd__law_pick "_law_pick" = true)
    (k__law_pick : PySem.W.keepIn K (.ref f__law_pick) = true)
    (a__law_lowest : PySem.W.nsIn K mainGlobals "_law_lowest" = some (some (.ref f__law_lowest)))
    (l__law_lowest : K.lookup f__law_lowest = some ⟨oc__law_lowest, od__law_lowest, .func (PySem.W.fnOf "_law_lowest" "_law_lowest" (defArgs s__law_lowest) (defBody s__law_lowest) (defScope s__law_lowest) .none kV__law_lowest dc__law_lowest pm__law_lowest an__law_lowest cd__law_lowest ct__law_lowest), sl__law_lowest⟩)
    (c__law_lowest : PySem.W.codeIn K cd__law_lowest "_law_lowest" = true)
    (k__law_lowest : PySem.W.keepIn K (.ref f__law_lowest) = true)
    (a__law_grains : PySem.W.nsIn K mainGlobals "_law_grains" = some (some (.ref f__law_grains)))
    (l__law_grains : K.lookup f__law_grains = some ⟨oc__law_grains, od__law_grains, .func (PySem.W.fnOf "_law_grains" "_law_grains" (defArgs s__law_grains) (defBody s__law_grains) (defScope s__law_grains) .none kV__law_grains dc__law_grains pm__law_grains an__law_grains cd__law_grains ct__law_grains), sl__law_grains⟩)
    (c__law_grains : PySem.W.codeIn K cd__law_grains "_law_grains" = true)
    (k__law_grains : PySem.W.keepIn K (.ref f__law_grains) = true)
    (a__law_two_right : PySem.W.nsIn K mainGlobals "_law_two_right" = some (some (.ref f__law_two_right)))
    (l__law_two_right : K.lookup f__law_two_right = some ⟨oc__law_two_right, od__law_two_right, .func (PySem.W.fnOf "_law_two_right" "_law_two_right" (defArgs s__law_two_right) (defBody s__law_two_right) (defScope s__law_two_right) .none kV__law_two_right dc__law_two_right pm__law_two_right an__law_two_right cd__law_two_right ct__law_two_right), sl__law_two_right⟩)
    (c__law_two_right : PySem.W.codeIn K cd__law_two_right "_law_two_right" = true)
    (k__law_two_right : PySem.W.keepIn K (.ref f__law_two_right) = true)
    (xL_BadWeb : K.lookup C_BadWeb = some (excClassObj nm_BadWeb qn_BadWeb C_BadWeb N_BadWeb bs_BadWeb bm_BadWeb true sn_BadWeb sub_BadWeb ab_BadWeb col_BadWeb dd_BadWeb m0_BadWeb m1_BadWeb m2_BadWeb m3_BadWeb m5_BadWeb "ValueError.__new__"))
    (xr_BadWeb : refsVE bm_BadWeb = true)
    (xi_BadWeb : PySem.W.findIn K (.ref C_BadWeb) "__init__" = some (some (.ref f_BadWeb__init__)))
    (l_BadWeb__init__ : K.lookup f_BadWeb__init__ = some ⟨oc_BadWeb__init__, od_BadWeb__init__, .func (PySem.W.fnOf "__init__" "BadWeb.__init__" (defArgs sx_BadWeb) (defBody sx_BadWeb) (defScope sx_BadWeb) .none kV_BadWeb__init__ dc_BadWeb__init__ pm_BadWeb__init__ an_BadWeb__init__ cd_BadWeb__init__ ct_BadWeb__init__), sl_BadWeb__init__⟩)
    (c_BadWeb__init__ : PySem.W.codeIn K cd_BadWeb__init__ "BadWeb.__init__" = true)
    (k_BadWeb__init__ : PySem.W.keepIn K (.ref f_BadWeb__init__) = true)
    (xt_BadWeb : PySem.W.typeIn K (.ref f_BadWeb__init__) = some (.type "function"))
    (xk_BadWeb : PySem.W.keepIn K (.ref C_BadWeb) = true)
    (xs_BadWeb : PySem.W.subIn K (.ref C_BadWeb) (.type "BaseException") = some true)
    (xy_BadWeb : PySem.W.typeIn K (.ref C_BadWeb) = some (.type "type"))
    (xsa_BadWeb : PySem.W.findIn K (.ref C_BadWeb) "__setattr__" = some (some (.builtin "object.__setattr__")))
    (xga_BadWeb : PySem.W.findIn K (.ref C_BadWeb) "__getattribute__" = some (some (.builtin "BaseException.__getattribute__")))
    (xgg_BadWeb : PySem.W.findIn K (.ref C_BadWeb) "__getattr__" = some none)
    (xhd_BadWeb : PySem.W.hasDictIn K C_BadWeb = true)
    (no_BadWeb : PySem.W.findIn K (.ref C_BadWeb) "part" = some none)
    (xL_TooMany : K.lookup C_TooMany = some (excClassObj nm_TooMany qn_TooMany C_TooMany N_TooMany bs_TooMany bm_TooMany true sn_TooMany sub_TooMany ab_TooMany col_TooMany dd_TooMany m0_TooMany m1_TooMany m2_TooMany m3_TooMany m5_TooMany "ValueError.__new__"))
    (xr_TooMany : refsVE bm_TooMany = true)
    (xi_TooMany : PySem.W.findIn K (.ref C_TooMany) "__init__" = some (some (.ref f_TooMany__init__)))
    (l_TooMany__init__ : K.lookup f_TooMany__init__ = some ⟨oc_TooMany__init__, od_TooMany__init__, .func (PySem.W.fnOf "__init__" "TooMany.__init__" (defArgs sx_TooMany) (defBody sx_TooMany) (defScope sx_TooMany) .none kV_TooMany__init__ dc_TooMany__init__ pm_TooMany__init__ an_TooMany__init__ cd_TooMany__init__ ct_TooMany__init__), sl_TooMany__init__⟩)
    (c_TooMany__init__ : PySem.W.codeIn K cd_TooMany__init__ "TooMany.__init__" = true)
    (k_TooMany__init__ : PySem.W.keepIn K (.ref f_TooMany__init__) = true)
    (xt_TooMany : PySem.W.typeIn K (.ref f_TooMany__init__) = some (.type "function"))
    (xk_TooMany : PySem.W.keepIn K (.ref C_TooMany) = true)
    (xs_TooMany : PySem.W.subIn K (.ref C_TooMany) (.type "BaseException") = some true)
    (xy_TooMany : PySem.W.typeIn K (.ref C_TooMany) = some (.type "type"))
    (xsa_TooMany : PySem.W.findIn K (.ref C_TooMany) "__setattr__" = some (some (.builtin "object.__setattr__")))
    (xga_TooMany : PySem.W.findIn K (.ref C_TooMany) "__getattribute__" = some (some (.builtin "BaseException.__getattribute__")))
    (xgg_TooMany : PySem.W.findIn K (.ref C_TooMany) "__getattr__" = some none)
    (xhd_TooMany : PySem.W.hasDictIn K C_TooMany = true)
    (no_TooMany : PySem.W.findIn K (.ref C_TooMany) "most" = some none)
    (wm_Web : PySem.W.makesIn K C_Web = true)
    (wf_Web : PySem.W.isFn K (.ref f_Web__init__) = true)
    (wk_Web : PySem.W.keepIn K (.ref C_Web) = true)
    (wp_Web : PySem.W.plainGet K C_Web Str.empty = true)
    (wd_Web : PySem.W.hasDictIn K C_Web = true)
    (wo_Web : PySem.W.plainOver K C_Web = true)
    (ws_Web : PySem.W.findIn K (.ref C_Web) "__setattr__" = some (some (.builtin "object.__setattr__")))
    (wc_Web : PySem.W.findIn K (.ref C_Web) "__class__" = some (some (.builtin "object.__class__")))
    (wg_Web : PySem.W.specialIn K (.builtin "object.__class__") "__get__" = some (some (.builtin "getset_descriptor.__get__")))
    (wt_Web : PySem.W.takesIn K (.builtin "object.__class__") = some true)
    (wr_Web : PySem.W.mroIn K C_Web (.type "object") = some true)
    (wint_Web : PySem.W.subIn K (.ref C_Web) (.type "int") = some false)
    (wbool_Web : PySem.W.subIn K (.ref C_Web) (.type "bool") = some false)
    (wstr_Web : PySem.W.subIn K (.ref C_Web) (.type "str") = some false)
    (wtuple_Web : PySem.W.subIn K (.ref C_Web) (.type "tuple") = some false)
    (wlist_Web : PySem.W.subIn K (.ref C_Web) (.type "list") = some false)
    (na_Web_pipes : PySem.W.findIn K (.ref C_Web) "pipes" = some none)
    (na_Web_widths : PySem.W.findIn K (.ref C_Web) "widths" = some none)
    (z_abs : PySem.W.nsIn K mainGlobals "abs" = some none)
    (z_all : PySem.W.nsIn K mainGlobals "all" = some none)
    (z_any : PySem.W.nsIn K mainGlobals "any" = some none)
    (z_bool : PySem.W.nsIn K mainGlobals "bool" = some none)
    (z_enumerate : PySem.W.nsIn K mainGlobals "enumerate" = some none)
    (z_int : PySem.W.nsIn K mainGlobals "int" = some none)
    (z_isinstance : PySem.W.nsIn K mainGlobals "isinstance" = some none)
    (z_len : PySem.W.nsIn K mainGlobals "len" = some none)
    (z_list : PySem.W.nsIn K mainGlobals "list" = some none)
    (z_max : PySem.W.nsIn K mainGlobals "max" = some none)
    (z_min : PySem.W.nsIn K mainGlobals "min" = some none)
    (z_range : PySem.W.nsIn K mainGlobals "range" = some none)
    (z_tuple : PySem.W.nsIn K mainGlobals "tuple" = some none)
    (z_zip : PySem.W.nsIn K mainGlobals "zip" = some none)
    (n_MOST_BOTTOM : PySem.W.nsIn K mainGlobals "MOST_BOTTOM" = some (some (.int 144 t_MOST_BOTTOM)))
    (n_MOST_PATTERNS : PySem.W.nsIn K mainGlobals "MOST_PATTERNS" = some (some (.int 5000 t_MOST_PATTERNS)))
    (n_MOST_PIPES : PySem.W.nsIn K mainGlobals "MOST_PIPES" = some (some (.int 36 t_MOST_PIPES)))
    (n_MOST_THRESHOLDS : PySem.W.nsIn K mainGlobals "MOST_THRESHOLDS" = some (some (.int 6 t_MOST_THRESHOLDS)))
    (n_MOST_TOP : PySem.W.nsIn K mainGlobals "MOST_TOP" = some (some (.int 1000000 t_MOST_TOP)))
    (n_MOST_VESSELS : PySem.W.nsIn K mainGlobals "MOST_VESSELS" = some (some (.int 12 t_MOST_VESSELS)))
    (n_MOST_WIDTH : PySem.W.nsIn K mainGlobals "MOST_WIDTH" = some (some (.int 12 t_MOST_WIDTH)))
    (n_MOST_WIDTHS : PySem.W.nsIn K mainGlobals "MOST_WIDTHS" = some (some (.int 64 t_MOST_WIDTHS)))
    (m_gcd : PySem.W.nsIn K mainGlobals "gcd" = some (some (.builtin "math.gcd")))
    (m_lcm : PySem.W.nsIn K mainGlobals "lcm" = some (some (.builtin "math.lcm")))
    (a_law : PySem.W.nsIn K mainGlobals "law" = some (some (.ref f_law)))
    (l_law : K.lookup f_law = some ⟨oc_law, od_law, .func (PySem.W.fnOf "law" "law" (defArgs s_law) (defBody s_law) (defScope s_law) .none kV_law dc_law pm_law an_law cd_law ct_law), sl_law⟩)
    (c_law : PySem.W.codeIn K cd_law "law" = true) : LamX.LawAtS l w K (L2.CX l.prog w) 10 63 "script" mg fa h := by
  have e := hfa.symm.trans (PySem.W.mg_of X G a_law)
  cases e
  have F_is_integer := fun_mk (st := s_is_integer) l_is_integer c_is_integer k_is_integer
  have F_is_between := fun_mk (st := s_is_between) l_is_between c_is_between k_is_between
  have F_is_tuple_of := fun_mk (st := s_is_tuple_of) l_is_tuple_of c_is_tuple_of k_is_tuple_of
  have F_is_fraction := fun_mk (st := s_is_fraction) l_is_fraction c_is_fraction k_is_fraction
  have F_at_most := fun_mk (st := s_at_most) l_at_most c_at_most k_at_most
  have F_is_threshold := fun_mk (st := s_is_threshold) l_is_threshold c_is_threshold k_is_threshold
  have F_is_list := fun_mk (st := s_is_list) l_is_list c_is_list k_is_list
  have F_is_width := fun_mk (st := s_is_width) l_is_width c_is_width k_is_width
  have F_is_widths := fun_mk (st := s_is_widths) l_is_widths c_is_widths k_is_widths
  have F_is_pipe := fun_mk (st := s_is_pipe) l_is_pipe c_is_pipe k_is_pipe
  have F_Web__init__ := fun_mk (st := s_Web__init__) l_Web__init__ c_Web__init__ k_Web__init__
  have F_nets_by := fun_mk (st := s_nets_by) l_nets_by c_nets_by k_nets_by
  have F_check_flows := fun_mk (st := s_check_flows) l_check_flows c_check_flows k_check_flows
  have F_all_flows := fun_mk (st := s_all_flows) l_all_flows c_all_flows k_all_flows
  have F_in_grains := fun_mk (st := s_in_grains) l_in_grains c_in_grains k_in_grains
  have F_check_widths := fun_mk (st := s_check_widths) l_check_widths c_check_widths k_check_widths
  have F_share := fun_mk (st := s_share) l_share c_share k_share
  have F_shares_of := fun_mk (st := s_shares_of) l_shares_of c_shares_of k_shares_of
  have F_window := fun_mk (st := s_window) l_window c_window k_window
  have F_leeways := fun_mk (st := s_leeways) l_leeways c_leeways k_leeways
  have F_least_places := fun_mk (st := s_least_places) l_least_places c_least_places k_least_places
  have F_standing_of := fun_mk (st := s_standing_of) l_standing_of c_standing_of k_standing_of
  have F_runs := fun_mk (st := s_runs) l_runs c_runs k_runs
  have F_stills := fun_mk (st := s_stills) l_stills c_stills k_stills
  have F_calm_web := fun_mk (st := s_calm_web) l_calm_web c_calm_web k_calm_web
  have F__law_tape := fun_mk (st := s__law_tape) l__law_tape c__law_tape k__law_tape
  have F__law_pick := fun_mk (st := s__law_pick) l__law_pick c__law_pick k__law_pick
  have F__law_lowest := fun_mk (st := s__law_lowest) l__law_lowest c__law_lowest k__law_lowest
  have F__law_grains := fun_mk (st := s__law_grains) l__law_grains c__law_grains k__law_grains
  have F__law_two_right := fun_mk (st := s__law_two_right) l__law_two_right c__law_two_right k__law_two_right
  have F_BadWeb__init__ := fun_mk (st := sx_BadWeb) l_BadWeb__init__ c_BadWeb__init__ k_BadWeb__init__
  have oxf_BadWeb : L2.XfC K C_BadWeb := ⟨xga_BadWeb, xgg_BadWeb, xs_BadWeb, xhd_BadWeb⟩
  have F_TooMany__init__ := fun_mk (st := sx_TooMany) l_TooMany__init__ c_TooMany__init__ k_TooMany__init__
  have oxf_TooMany : L2.XfC K C_TooMany := ⟨xga_TooMany, xgg_TooMany, xs_TooMany, xhd_TooMany⟩
  have okw_Web : OkD K (.oth (.ref C_Web)) := by
    unfold OkD
    intro n hn
    have five : n = "int" ∨ n = "bool" ∨ n = "str" ∨ n = "tuple" ∨ n = "list" := by simpa [kinds] using hn
    rcases five with rfl | rfl | rfl | rfl | rfl
    · exact kit_bt (by decide +kernel) wint_Web
    · exact kit_bt (by decide +kernel) wbool_Web
    · exact kit_bt (by decide +kernel) wstr_Web
    · exact kit_bt (by decide +kernel) wtuple_Web
    · exact kit_bt (by decide +kernel) wlist_Web
  let T : Txt K mg := {
    f_is_integer := f_is_integer
    fd_is_integer := _
    F_is_integer := F_is_integer
    b_is_integer := F_is_integer.binds (ps := ["thing"]) fun _ _ _ _ _ _ us hl => match us, hl with | [_], _ => rfl
    g_is_integer := PySem.W.mg_of X G a_is_integer
    k_is_integer := k_is_integer
    f_is_between := f_is_between
    fd_is_between := _
    F_is_between := F_is_between
    b_is_between := F_is_between.binds (ps := ["low", "high", "thing"]) fun _ _ _ _ _ _ us hl => match us, hl with | [_, _, _], _ => rfl
    g_is_between := PySem.W.mg_of X G a_is_between
    k_is_between := k_is_between
    f_is_tuple_of := f_is_tuple_of
    fd_is_tuple_of := _
    F_is_tuple_of := F_is_tuple_of
    b_is_tuple_of := F_is_tuple_of.binds (ps := ["low", "high", "thing"]) fun _ _ _ _ _ _ us hl => match us, hl with | [_, _, _], _ => rfl
    g_is_tuple_of := PySem.W.mg_of X G a_is_tuple_of
    k_is_tuple_of := k_is_tuple_of
    f_is_fraction := f_is_fraction
    fd_is_fraction := _
    F_is_fraction := F_is_fraction
    b_is_fraction := F_is_fraction.binds (ps := ["thing"]) fun _ _ _ _ _ _ us hl => match us, hl with | [_], _ => rfl
    g_is_fraction := PySem.W.mg_of X G a_is_fraction
    k_is_fraction := k_is_fraction
    f_at_most := f_at_most
    fd_at_most := _
    F_at_most := F_at_most
    b_at_most := F_at_most.binds (ps := ["one", "other"]) fun _ _ _ _ _ _ us hl => match us, hl with | [_, _], _ => rfl
    g_at_most := PySem.W.mg_of X G a_at_most
    k_at_most := k_at_most
    f_is_threshold := f_is_threshold
    fd_is_threshold := _
    F_is_threshold := F_is_threshold
    b_is_threshold := F_is_threshold.binds (ps := ["thing"]) fun _ _ _ _ _ _ us hl => match us, hl with | [_], _ => rfl
    g_is_threshold := PySem.W.mg_of X G a_is_threshold
    k_is_threshold := k_is_threshold
    f_is_list := f_is_list
    fd_is_list := _
    F_is_list := F_is_list
    b_is_list := F_is_list.binds (ps := ["thing"]) fun _ _ _ _ _ _ us hl => match us, hl with | [_], _ => rfl
    g_is_list := PySem.W.mg_of X G a_is_list
    k_is_list := k_is_list
    f_is_width := f_is_width
    fd_is_width := _
    F_is_width := F_is_width
    b_is_width := F_is_width.binds (ps := ["thing"]) fun _ _ _ _ _ _ us hl => match us, hl with | [_], _ => rfl
    g_is_width := PySem.W.mg_of X G a_is_width
    k_is_width := k_is_width
    f_is_widths := f_is_widths
    fd_is_widths := _
    F_is_widths := F_is_widths
    b_is_widths := F_is_widths.binds (ps := ["thing"]) fun _ _ _ _ _ _ us hl => match us, hl with | [_], _ => rfl
    g_is_widths := PySem.W.mg_of X G a_is_widths
    k_is_widths := k_is_widths
    f_is_pipe := f_is_pipe
    fd_is_pipe := _
    F_is_pipe := F_is_pipe
    b_is_pipe := F_is_pipe.binds (ps := ["vessels", "thing"]) fun _ _ _ _ _ _ us hl => match us, hl with | [_, _], _ => rfl
    g_is_pipe := PySem.W.mg_of X G a_is_pipe
    k_is_pipe := k_is_pipe
    f_Web__init__ := f_Web__init__
    fd_Web__init__ := _
    F_Web__init__ := F_Web__init__
    b_Web__init__ := F_Web__init__.binds (ps := ["self", "widths", "pipes"]) fun _ _ _ _ _ _ us hl => match us, hl with | [_, _, _], _ => rfl
    f_nets_by := f_nets_by
    fd_nets_by := _
    F_nets_by := F_nets_by
    b_nets_by := F_nets_by.binds (ps := ["web", "ran"]) fun _ _ _ _ _ _ us hl => match us, hl with | [_, _], _ => rfl
    g_nets_by := PySem.W.mg_of X G a_nets_by
    k_nets_by := k_nets_by
    f_check_flows := f_check_flows
    fd_check_flows := _
    F_check_flows := F_check_flows
    b_check_flows := F_check_flows.binds (ps := ["web", "most"]) fun _ _ _ _ _ _ us hl => match us, hl with | [_, _], _ => rfl
    g_check_flows := PySem.W.mg_of X G a_check_flows
    k_check_flows := k_check_flows
    f_all_flows := f_all_flows
    fd_all_flows := _
    F_all_flows := F_all_flows
    b_all_flows := F_all_flows.binds (ps := ["web"]) fun _ _ _ _ _ _ us hl => match us, hl with | [_], _ => rfl
    g_all_flows := PySem.W.mg_of X G a_all_flows
    k_all_flows := k_all_flows
    f_in_grains := f_in_grains
    fd_in_grains := _
    F_in_grains := F_in_grains
    b_in_grains := F_in_grains.binds (ps := ["thresholds", "many"]) fun _ _ _ _ _ _ us hl => match us, hl with | [_, _], _ => rfl
    g_in_grains := PySem.W.mg_of X G a_in_grains
    k_in_grains := k_in_grains
    f_check_widths := f_check_widths
    fd_check_widths := _
    F_check_widths := F_check_widths
    b_check_widths := F_check_widths.binds (ps := ["web"]) fun _ _ _ _ _ _ us hl => match us, hl with | [_], _ => rfl
    g_check_widths := PySem.W.mg_of X G a_check_widths
    k_check_widths := k_check_widths
    f_share := f_share
    fd_share := _
    F_share := F_share
    b_share := F_share.binds (ps := ["width", "many"]) fun _ _ _ _ _ _ us hl => match us, hl with | [_, _], _ => rfl
    g_share := PySem.W.mg_of X G a_share
    k_share := k_share
    f_shares_of := f_shares_of
    fd_shares_of := _
    F_shares_of := F_shares_of
    b_shares_of := F_shares_of.binds (ps := ["web"]) fun _ _ _ _ _ _ us hl => match us, hl with | [_], _ => rfl
    g_shares_of := PySem.W.mg_of X G a_shares_of
    k_shares_of := k_shares_of
    f_window := f_window
    fd_window := _
    F_window := F_window
    b_window := F_window.binds (ps := ["steps", "ran", "least", "most"]) fun _ _ _ _ _ _ us hl => match us, hl with | [_, _, _, _], _ => rfl
    g_window := PySem.W.mg_of X G a_window
    k_window := k_window
    f_leeways := f_leeways
    fd_leeways := _
    F_leeways := F_leeways
    b_leeways := F_leeways.binds (ps := ["web", "many", "shares", "pattern"]) fun _ _ _ _ _ _ us hl => match us, hl with | [_, _, _, _], _ => rfl
    g_leeways := PySem.W.mg_of X G a_leeways
    k_leeways := k_leeways
    f_least_places := f_least_places
    fd_least_places := _
    F_least_places := F_least_places
    b_least_places := F_least_places.binds (ps := ["web", "many", "shares", "nets", "apart"]) fun _ _ _ _ _ _ us hl => match us, hl with | [_, _, _, _, _], _ => rfl
    g_least_places := PySem.W.mg_of X G a_least_places
    k_least_places := k_least_places
    f_standing_of := f_standing_of
    fd_standing_of := _
    F_standing_of := F_standing_of
    b_standing_of := F_standing_of.binds (ps := ["web", "pattern"]) fun _ _ _ _ _ _ us hl => match us, hl with | [_, _], _ => rfl
    g_standing_of := PySem.W.mg_of X G a_standing_of
    k_standing_of := k_standing_of
    f_runs := f_runs
    fd_runs := _
    F_runs := F_runs
    b_runs := F_runs.binds (ps := ["web", "flows"]) fun _ _ _ _ _ _ us hl => match us, hl with | [_, _], _ => rfl
    g_runs := PySem.W.mg_of X G a_runs
    k_runs := k_runs
    f_stills := f_stills
    fd_stills := _
    F_stills := F_stills
    b_stills := F_stills.binds (ps := ["web"]) fun _ _ _ _ _ _ us hl => match us, hl with | [_], _ => rfl
    g_stills := PySem.W.mg_of X G a_stills
    k_stills := k_stills
    f_calm_web := f_calm_web
    fd_calm_web := _
    F_calm_web := F_calm_web
    b_calm_web := F_calm_web.binds (ps := ["web"]) fun _ _ _ _ _ _ us hl => match us, hl with | [_], _ => rfl
    g_calm_web := PySem.W.mg_of X G a_calm_web
    k_calm_web := k_calm_web
    f__law_tape := f__law_tape
    fd__law_tape := _
    F__law_tape := F__law_tape
    b__law_tape := F__law_tape.binds (ps := ["script"]) fun _ _ _ _ _ _ us hl => match us, hl with | [_], _ => rfl
    g__law_tape := PySem.W.mg_of X G a__law_tape
    k__law_tape := k__law_tape
    f__law_pick := f__law_pick
    fd__law_pick := _
    F__law_pick := F__law_pick
    b__law_pick := F__law_pick.binds (ps := ["tape", "size"]) fun _ _ _ _ _ _ us hl => match us, hl with | [_, _], _ => rfl
    g__law_pick := PySem.W.mg_of X G a__law_pick
    k__law_pick := k__law_pick
    f__law_lowest := f__law_lowest
    fd__law_lowest := _
    F__law_lowest := F__law_lowest
    b__law_lowest := F__law_lowest.binds (ps := ["top", "bottom"]) fun _ _ _ _ _ _ us hl => match us, hl with | [_, _], _ => rfl
    g__law_lowest := PySem.W.mg_of X G a__law_lowest
    k__law_lowest := k__law_lowest
    f__law_grains := f__law_grains
    fd__law_grains := _
    F__law_grains := F__law_grains
    b__law_grains := F__law_grains.binds (ps := ["width", "other"]) fun _ _ _ _ _ _ us hl => match us, hl with | [_, _], _ => rfl
    g__law_grains := PySem.W.mg_of X G a__law_grains
    k__law_grains := k__law_grains
    f__law_two_right := f__law_two_right
    fd__law_two_right := _
    F__law_two_right := F__law_two_right
    b__law_two_right := F__law_two_right.binds (ps := ["tape"]) fun _ _ _ _ _ _ us hl => match us, hl with | [_], _ => rfl
    g__law_two_right := PySem.W.mg_of X G a__law_two_right
    k__law_two_right := k__law_two_right
    Z := ⟨C_Web, C_BadWeb, C_TooMany⟩
    fi_BadWeb := f_BadWeb__init__
    fdx_BadWeb := _
    Fx_BadWeb := F_BadWeb__init__
    bx_BadWeb := F_BadWeb__init__.binds (ps := ["self", "part"]) fun _ _ _ _ _ _ us hl => match us, hl with | [_, _], _ => rfl
    gx_BadWeb := PySem.W.mg_of X G aC_BadWeb
    ox_BadWeb := ⟨⟨_, _, _, _, _, _, _, _, _, _, _, _, _, _, _, xL_BadWeb, xr_BadWeb⟩, xsa_BadWeb, xs_BadWeb, xy_BadWeb, xk_BadWeb⟩
    xi_BadWeb := xi_BadWeb
    xt_BadWeb := xt_BadWeb
    no_BadWeb := no_BadWeb
    xf_BadWeb := oxf_BadWeb
    fi_TooMany := f_TooMany__init__
    fdx_TooMany := _
    Fx_TooMany := F_TooMany__init__
    bx_TooMany := F_TooMany__init__.binds (ps := ["self", "most"]) fun _ _ _ _ _ _ us hl => match us, hl with | [_, _], _ => rfl
    gx_TooMany := PySem.W.mg_of X G aC_TooMany
    ox_TooMany := ⟨⟨_, _, _, _, _, _, _, _, _, _, _, _, _, _, _, xL_TooMany, xr_TooMany⟩, xsa_TooMany, xs_TooMany, xy_TooMany, xk_TooMany⟩
    xi_TooMany := xi_TooMany
    xt_TooMany := xt_TooMany
    no_TooMany := no_TooMany
    xf_TooMany := oxf_TooMany
    cm_Web := ⟨wm_Web, a_Web__init__, wf_Web, wk_Web⟩
    gc_Web := PySem.W.mg_of X G aC_Web
    it_Web := ⟨⟨wp_Web, wd_Web, wo_Web, ws_Web⟩, wc_Web, wg_Web, wt_Web, wr_Web⟩
    ok_Web := okw_Web
    na_Web_pipes := na_Web_pipes
    na_Web_widths := na_Web_widths
    z_abs := PySem.W.mg_none_of X G z_abs
    z_all := PySem.W.mg_none_of X G z_all
    z_any := PySem.W.mg_none_of X G z_any
    z_bool := PySem.W.mg_none_of X G z_bool
    z_enumerate := PySem.W.mg_none_of X G z_enumerate
    z_int := PySem.W.mg_none_of X G z_int
    z_isinstance := PySem.W.mg_none_of X G z_isinstance
    z_len := PySem.W.mg_none_of X G z_len
    z_list := PySem.W.mg_none_of X G z_list
    z_max := PySem.W.mg_none_of X G z_max
    z_min := PySem.W.mg_none_of X G z_min
    z_range := PySem.W.mg_none_of X G z_range
    z_tuple := PySem.W.mg_none_of X G z_tuple
    z_zip := PySem.W.mg_none_of X G z_zip
    t_MOST_BOTTOM := t_MOST_BOTTOM
    c_MOST_BOTTOM := PySem.W.mg_of X G n_MOST_BOTTOM
    t_MOST_PATTERNS := t_MOST_PATTERNS
    c_MOST_PATTERNS := PySem.W.mg_of X G n_MOST_PATTERNS
    t_MOST_PIPES := t_MOST_PIPES
    c_MOST_PIPES := PySem.W.mg_of X G n_MOST_PIPES
    t_MOST_THRESHOLDS := t_MOST_THRESHOLDS
    c_MOST_THRESHOLDS := PySem.W.mg_of X G n_MOST_THRESHOLDS
    t_MOST_TOP := t_MOST_TOP
    c_MOST_TOP := PySem.W.mg_of X G n_MOST_TOP
    t_MOST_VESSELS := t_MOST_VESSELS
    c_MOST_VESSELS := PySem.W.mg_of X G n_MOST_VESSELS
    t_MOST_WIDTH := t_MOST_WIDTH
    c_MOST_WIDTH := PySem.W.mg_of X G n_MOST_WIDTH
    t_MOST_WIDTHS := t_MOST_WIDTHS
    c_MOST_WIDTHS := PySem.W.mg_of X G n_MOST_WIDTHS
    m_gcd := PySem.W.mg_of X G m_gcd
    m_lcm := PySem.W.mg_of X G m_lcm }
  have LF : LawF K T.Z := ⟨trivial⟩
  exact law_at T LF l_law c_law
end
end K55
open PySem PySem.W PyProof.Rows
set_option maxRecDepth 100000 in
set_option maxHeartbeats 0 in
theorem PySem.Challenge.cw_twotides_k55_whole_stars_rows_and_rings_holds : PySem.Challenge.rw_twotides_k55_whole_stars_rows_and_rings.Holds := by
  w_on; o_law; k_head; (case hw => w_witness2)
  k_fill
  refine LamX.walk_ofTs (l := PySem.Challenge.rw_twotides_k55_whole_stars_rows_and_rings) (n := 63) (k := 10) (x := "script") (CX := fun w => L2.CX PySem.Challenge.rw_twotides_k55_whole_stars_rows_and_rings.prog w) rfl (by decide) rfl ⟨rfl, by decide, by decide⟩ (fun w h Y => Y) ?F K55.cx_none
  case F =>
    intro w mg fa h Y KX G hmg
    refine' K55.all_mk (K := _) KX G hmg ?aC_Web ?aC_BadWeb ?aC_TooMany ?a_is_integer ?l_is_integer ?c_is_integer ?k_is_integer ?a_is_between ?l_is_between ?c_is_between ?k_is_between ?a_is_tuple_of ?l_is_tuple_of ?c_is_tuple_of ?k_is_tuple_of ?a_is_fraction ?l_is_fraction ?c_is_fraction ?k_is_fraction ?a_at_most ?l_at_most ?c_at_most ?k_at_most ?a_is_threshold ?l_is_threshold ?c_is_threshold ?k_is_threshold ?a_is_list ?l_is_list ?c_is_list ?k_is_list ?a_is_width ?l_is_width ?c_is_width ?k_is_width ?a_is_widths ?l_is_widths ?c_is_widths ?k_is_widths ?a_is_pipe ?l_is_pipe ?c_is_pipe ?k_is_pipe ?a_Web__init__ ?l_Web__init__ ?c_Web__init__ ?k_Web__init__ ?a_nets_by ?l_nets_by ?c_nets_by ?k_nets_by ?a_check_flows ?l_check_flows ?c_check_flows ?k_check_flows ?a_all_flows ?l_all_flows ?c_all_flows ?k_all_flows ?a_in_grains ?l_in_grains ?c_in_grains ?k_in_grains ?a_check_widths ?l_check_widths ?c_check_widths ?k_check_widths ?a_share ?l_share ?c_share ?k_share ?a_shares_of ?l_shares_of ?c_shares_of ?k_shares_of ?a_window ?l_window ?c_window ?k_window ?a_leeways ?l_leeways ?c_leeways ?k_leeways ?a_least_places ?l_least_places ?c_least_places ?k_least_places ?a_standing_of ?l_standing_of ?c_standing_of ?k_standing_of ?a_runs ?l_runs ?c_runs ?k_runs ?a_stills ?l_stills ?c_stills ?k_stills ?a_calm_web ?l_calm_web ?c_calm_web ?k_calm_web ?a__law_tape ?l__law_tape ?c__law_tape ?k__law_tape ?a__law_pick ?l__law_pick ?c__law_pick ?k__law_pick ?a__law_lowest ?l__law_lowest ?c__law_lowest ?k__law_lowest ?a__law_grains ?l__law_grains ?c__law_grains ?k__law_grains ?a__law_two_right ?l__law_two_right ?c__law_two_right ?k__law_two_right ?xL_BadWeb ?xr_BadWeb ?xi_BadWeb ?l_BadWeb__init__ ?c_BadWeb__init__ ?k_BadWeb__init__ ?xt_BadWeb ?xk_BadWeb ?xs_BadWeb ?xy_BadWeb ?xsa_BadWeb ?xga_BadWeb ?xgg_BadWeb ?xhd_BadWeb ?no_BadWeb ?xL_TooMany ?xr_TooMany ?xi_TooMany ?l_TooMany__init__ ?c_TooMany__init__ ?k_TooMany__init__ ?xt_TooMany ?xk_TooMany ?xs_TooMany ?xy_TooMany ?xsa_TooMany ?xga_TooMany ?xgg_TooMany ?xhd_TooMany ?no_TooMany ?wm_Web ?wf_Web ?wk_Web ?wp_Web ?wd_Web ?wo_Web ?ws_Web ?wc_Web ?wg_Web ?wt_Web ?wr_Web ?wint_Web ?wbool_Web ?wstr_Web ?wtuple_Web ?wlist_Web ?na_Web_pipes ?na_Web_widths ?z_abs ?z_all ?z_any ?z_bool ?z_enumerate ?z_int ?z_isinstance ?z_len ?z_list ?z_max ?z_min ?z_range ?z_tuple ?z_zip ?n_MOST_BOTTOM ?n_MOST_PATTERNS ?n_MOST_PIPES ?n_MOST_THRESHOLDS ?n_MOST_TOP ?n_MOST_VESSELS ?n_MOST_WIDTH ?n_MOST_WIDTHS ?m_gcd ?m_lcm ?a_law ?l_law ?c_law
    (case aC_Web => k_is)
    (case aC_BadWeb => k_is)
    (case aC_TooMany => k_is)
    (case a_is_integer => k_is)
    (case l_is_integer => k_is)
    (case c_is_integer => k_is)
    (case k_is_integer => k_is)
    (case a_is_between => k_is)
    (case l_is_between => k_is)
    (case c_is_between => k_is)
    (case k_is_between => k_is)
    (case a_is_tuple_of => k_is)
    (case l_is_tuple_of => k_is)
    (case c_is_tuple_of => k_is)
    (case k_is_tuple_of => k_is)
    (case a_is_fraction => k_is)
    (case l_is_fraction => k_is)
    (case c_is_fraction => k_is)
    (case k_is_fraction => k_is)
    (case a_at_most => k_is)
    (case l_at_most => k_is)
    (case c_at_most => k_is)
    (case k_at_most => k_is)
    (case a_is_threshold => k_is)
    (case l_is_threshold => k_is)
    (case c_is_threshold => k_is)
    (case k_is_threshold => k_is)
    (case a_is_list => k_is)
    (case l_is_list => k_is)
    (case c_is_list => k_is)
    (case k_is_list => k_is)
    (case a_is_width => k_is)
    (case l_is_width => k_is)
    (case c_is_width => k_is)
    (case k_is_width => k_is)
    (case a_is_widths => k_is)
    (case l_is_widths => k_is)
    (case c_is_widths => k_is)
    (case k_is_widths => k_is)
    (case a_is_pipe => k_is)
    (case l_is_pipe => k_is)
    (case c_is_pipe => k_is)
    (case k_is_pipe => k_is)
    (case a_Web__init__ => k_is)
    (case l_Web__init__ => k_is)
    (case c_Web__init__ => k_is)
    (case k_Web__init__ => k_is)
    (case a_nets_by => k_is)
    (case l_nets_by => k_is)
    (case c_nets_by => k_is)
    (case k_nets_by => k_is)
    (case a_check_flows => k_is)
    (case l_check_flows => k_is)
    (case c_check_flows => k_is)
    (case k_check_flows => k_is)
    (case a_all_flows => k_is)
    (case l_all_flows => k_is)
    (case c_all_flows => k_is)
    (case k_all_flows => k_is)
    (case a_in_grains => k_is)
    (case l_in_grains => k_is)
    (case c_in_grains => k_is)
    (case k_in_grains => k_is)
    (case a_check_widths => k_is)
    (case l_check_widths => k_is)
    (case c_check_widths => k_is)
    (case k_check_widths => k_is)
    (case a_share => k_is)
    (case l_share => k_is)
    (case c_share => k_is)
    (case k_share => k_is)
    (case a_shares_of => k_is)
    (case l_shares_of => k_is)
    (case c_shares_of => k_is)
    (case k_shares_of => k_is)
    (case a_window => k_is)
    (case l_window => k_is)
    (case c_window => k_is)
    (case k_window => k_is)
    (case a_leeways => k_is)
    (case l_leeways => k_is)
    (case c_leeways => k_is)
    (case k_leeways => k_is)
    (case a_least_places => k_is)
    (case l_least_places => k_is)
    (case c_least_places => k_is)
    (case k_least_places => k_is)
    (case a_standing_of => k_is)
    (case l_standing_of => k_is)
    (case c_standing_of => k_is)
    (case k_standing_of => k_is)
    (case a_runs => k_is)
    (case l_runs => k_is)
    (case c_runs => k_is)
    (case k_runs => k_is)
    (case a_stills => k_is)
    (case l_stills => k_is)
    (case c_stills => k_is)
    (case k_stills => k_is)
    (case a_calm_web => k_is)
    (case l_calm_web => k_is)
    (case c_calm_web => k_is)
    (case k_calm_web => k_is)
    (case a__law_tape => k_is)
    (case l__law_tape => k_is)
    (case c__law_tape => k_is)
    (case k__law_tape => k_is)
    (case a__law_pick => k_is)
    (case l__law_pick => k_is)
    (case c__law_pick => k_is)
    (case k__law_pick => k_is)
    (case a__law_lowest => k_is)
    (case l__law_lowest => k_is)
    (case c__law_lowest => k_is)
    (case k__law_lowest => k_is)
    (case a__law_grains => k_is)
    (case l__law_grains => k_is)
    (case c__law_grains => k_is)
    (case k__law_grains => k_is)
    (case a__law_two_right => k_is)
    (case l__law_two_right => k_is)
    (case c__law_two_right => k_is)
    (case k__law_two_right => k_is)
    (case xL_BadWeb => k_is)
    (case xr_BadWeb => decide +kernel)
    (case xi_BadWeb => k_is)
    (case l_BadWeb__init__ => k_is)
    (case c_BadWeb__init__ => k_is)
    (case k_BadWeb__init__ => k_is)
    (case xt_BadWeb => k_is)
    (case xk_BadWeb => k_is)
    (case xs_BadWeb => k_is)
    (case xy_BadWeb => k_is)
    (case xsa_BadWeb => k_is)
    (case xga_BadWeb => k_is)
    (case xgg_BadWeb => k_is)
    (case xhd_BadWeb => k_is)
    (case no_BadWeb => k_is)
    (case xL_TooMany => k_is)
    (case xr_TooMany => decide +kernel)
    (case xi_TooMany => k_is)
    (case l_TooMany__init__ => k_is)
    (case c_TooMany__init__ => k_is)
    (case k_TooMany__init__ => k_is)
    (case xt_TooMany => k_is)
    (case xk_TooMany => k_is)
    (case xs_TooMany => k_is)
    (case xy_TooMany => k_is)
    (case xsa_TooMany => k_is)
    (case xga_TooMany => k_is)
    (case xgg_TooMany => k_is)
    (case xhd_TooMany => k_is)
    (case no_TooMany => k_is)
    (case wm_Web => k_is)
    (case wf_Web => k_is)
    (case wk_Web => k_is)
    (case wp_Web => k_is)
    (case wd_Web => k_is)
    (case wo_Web => k_is)
    (case ws_Web => k_is)
    (case wc_Web => k_is)
    (case wg_Web => k_is)
    (case wt_Web => k_is)
    (case wr_Web => k_is)
    (case wint_Web => k_is)
    (case wbool_Web => k_is)
    (case wstr_Web => k_is)
    (case wtuple_Web => k_is)
    (case wlist_Web => k_is)
    (case na_Web_pipes => k_is)
    (case na_Web_widths => k_is)
    (case z_abs => k_is)
    (case z_all => k_is)
    (case z_any => k_is)
    (case z_bool => k_is)
    (case z_enumerate => k_is)
    (case z_int => k_is)
    (case z_isinstance => k_is)
    (case z_len => k_is)
    (case z_list => k_is)
    (case z_max => k_is)
    (case z_min => k_is)
    (case z_range => k_is)
    (case z_tuple => k_is)
    (case z_zip => k_is)
    (case n_MOST_BOTTOM => k_is)
    (case n_MOST_PATTERNS => k_is)
    (case n_MOST_PIPES => k_is)
    (case n_MOST_THRESHOLDS => k_is)
    (case n_MOST_TOP => k_is)
    (case n_MOST_VESSELS => k_is)
    (case n_MOST_WIDTH => k_is)
    (case n_MOST_WIDTHS => k_is)
    (case m_gcd => k_is)
    (case m_lcm => k_is)
    (case a_law => k_is)
    (case l_law => k_is)
    (case c_law => k_is)
