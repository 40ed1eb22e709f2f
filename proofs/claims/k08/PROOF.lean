import PyProof.Rows.All
import Wide.All
import OpenK.AllK
import Wide.FinOn
import HandS.ForMost
import HandS.ForExc
import HandS.IsInst
import HandS.Zip
import HandS.Gcd
import HandS.Wide
import KE.SortData
import HandS.ExcIs
import HandS.Lambda
import HandS.EndTab
import HandS.Flt
import HandS.ExcField
import HandS.ExcInit
import KE.KExcIs
import HandS.TupAny
import HandS.TupLe
import HandS.Iter
import HandS.Deep
import PySem.Challenge.RW_twotides_k08_faults_of_webs
set_option Elab.async false
set_option linter.all false
set_option maxRecDepth 100000
set_option maxHeartbeats 4000000
namespace L3
open PySem PySem.Spec PyProof.Rows L2

/-! ## data -/
inductive D where
  | non | bl (b : Bool) | int (i : Int) | str (x : Str) | tup (ds : List D) | lst (ds : List D) | fl (ds : List D) | ty (n : String) | oth (t : Value) | ins (C : Addr) (fs : List (Str × D))

mutual
inductive Rep (K : PySem.W.Frag) (F : Hp) : V → D → Prop
  | non : Rep K F .non .non
  | bl (b : Bool) : Rep K F (.bl b) (.bl b)
  | int (i : Int) : Rep K F (.int i) (.int i)
  | str (x : Str) : Rep K F (.str x) (.str x)
  | tup {a : Addr} {xs : List V} {ds : List D} : SqT K F a xs → Reps K F xs ds → Rep K F (.ref a) (.tup ds)
  | lst {a : Addr} {xs : List V} {ds : List D} : F a = some (.lst xs) → Reps K F xs ds → Rep K F (.ref a) (.lst ds)
  | fl {a : Addr} {xs : List V} {ds : List D} : SqL K F a xs → Reps K F xs ds → Rep K F (.ref a) (.fl ds)
  | ty (n : String) : Rep K F (.ty n) (.ty n)
  | oth {a : Addr} {t : Value} : TyX K F (.ref a) t → Rep K F (.ref a) (.oth t)
  | ins {a C dx : Addr} {fs : List (Str × V)} {ds : List (Str × D)} : F a = some (.ins C dx fs) → FRep K F fs ds → Rep K F (.ref a) (.ins C ds)
inductive Reps (K : PySem.W.Frag) (F : Hp) : List V → List D → Prop
  | nil : Reps K F [] []
  | cons {v : V} {vs : List V} {d : D} {ds : List D} : Rep K F v d → Reps K F vs ds → Reps K F (v :: vs) (d :: ds)
inductive FRep (K : PySem.W.Frag) (F : Hp) : List (Str × V) → List (Str × D) → Prop
  | nil : FRep K F [] []
  | cons {f : Str} {v : V} {d : D} {vs : List (Str × V)} {ds : List (Str × D)} : Rep K F v d → FRep K F vs ds → FRep K F ((f, v) :: vs) ((f, d) :: ds)
end

theorem SqT_mono {K : PySem.W.Frag} {F F' : Hp} {a : Addr} {xs : List V} (s : Same F F') (h : SqT K F a xs) : SqT K F' a xs := by
  rcases h with (h | ⟨o, h⟩) | h
  · exact .inl (.inl (s _ _ h))
  · exact .inl (.inr ⟨o, s _ _ h⟩)
  · exact .inr h
theorem TyX_mono {K : PySem.W.Frag} {F F' : Hp} {v : V} {t : Value} (s : Same F F') (h : TyX K F v t) : TyX K F' v t := by
  cases h with
  | base h =>
    refine .base ?_
    cases h with
    | non => exact .non
    | bl x => exact .bl x
    | int x => exact .int x
    | str x => exact .str x
    | flt x => exact .flt x
    | lst e => exact .lst (s _ _ e)
    | frz e => exact .frz (s _ _ e)
    | tup e => exact .tup (s _ _ e)
    | dK e => exact .dK (s _ _ e)
    | dT e => exact .dT (s _ _ e)
    | ins e cl ha hn ht hm => exact .ins (s _ _ e) cl ha hn ht hm
  | byt b => exact .byt b
  | set e => exact .set (s _ _ e)
  | kList e c => exact .kList e c
  | kTuple e c => exact .kTuple e c
  | kDict e c => exact .kDict e c
  | fTuple e => exact .fTuple (s _ _ e)
  | fDict e => exact .fDict (s _ _ e)
mutual
theorem Rep.mono {K : PySem.W.Frag} {F F' : Hp} (s : Same F F') : ∀ {v : V} {d : D}, Rep K F v d → Rep K F' v d
  | _, _, .non => .non
  | _, _, .bl b => .bl b
  | _, _, .int i => .int i
  | _, _, .str x => .str x
  | _, _, .tup h r => .tup (SqT_mono s h) (Reps.mono s r)
  | _, _, .lst h r => .lst (s _ _ h) (Reps.mono s r)
  | _, _, .fl h r => .fl (s.seq h) (Reps.mono s r)
  | _, _, .ty n => .ty n
  | _, _, .oth h => .oth (TyX_mono s h)
  | _, _, .ins h r => .ins (s _ _ h) (FRep.mono s r)
theorem Reps.mono {K : PySem.W.Frag} {F F' : Hp} (s : Same F F') : ∀ {vs : List V} {ds : List D}, Reps K F vs ds → Reps K F' vs ds
  | _, _, .nil => .nil
  | _, _, .cons h r => .cons (Rep.mono s h) (Reps.mono s r)
theorem FRep.mono {K : PySem.W.Frag} {F F' : Hp} (s : Same F F') : ∀ {vs : List (Str × V)} {ds : List (Str × D)}, FRep K F vs ds → FRep K F' vs ds
  | _, _, .nil => .nil
  | _, _, .cons h r => .cons (Rep.mono s h) (FRep.mono s r)
end
theorem Reps.length {K : PySem.W.Frag} {F : Hp} : ∀ {vs : List V} {ds : List D}, Reps K F vs ds → vs.length = ds.length
  | _, _, .nil => rfl
  | _, _, .cons _ r => by rw [List.length_cons, List.length_cons, Reps.length r]
theorem Reps.get {K : PySem.W.Frag} {F : Hp} : ∀ {vs : List V} {ds : List D} {i : Nat} {v : V}, Reps K F vs ds → vs[i]? = some v → ∃ d, ds[i]? = some d ∧ Rep K F v d
  | _, _, _, _, .nil, e => by simp at e
  | _, _, 0, _, .cons r _, e => by simp at e; subst e; exact ⟨_, rfl, r⟩
  | _, _, i + 1, x, .cons _ t, e => by
    obtain ⟨u, h1, h2⟩ := Reps.get (i := i) (v := x) t (by simpa using e)
    exact ⟨u, by simpa using h1, h2⟩
theorem Reps.getD {K : PySem.W.Frag} {F : Hp} : ∀ {vs : List V} {ds : List D} {i : Nat} {d : D}, Reps K F vs ds → ds[i]? = some d → ∃ v, vs[i]? = some v ∧ Rep K F v d
  | _, _, _, _, .nil, e => by simp at e
  | _, _, 0, _, .cons r _, e => by simp at e; subst e; exact ⟨_, rfl, r⟩
  | _, _, i + 1, x, .cons _ t, e => by
    obtain ⟨u, h1, h2⟩ := Reps.getD (i := i) (d := x) t (by simpa using e)
    exact ⟨u, by simpa using h1, h2⟩
theorem Reps.append {K : PySem.W.Frag} {F : Hp} : ∀ {vs ws : List V} {ds es : List D}, Reps K F vs ds → Reps K F ws es → Reps K F (vs ++ ws) (ds ++ es)
  | _, _, _, _, .nil, r => r
  | _, _, _, _, .cons h t, r => .cons h (Reps.append t r)
theorem Reps.take {K : PySem.W.Frag} {F : Hp} : ∀ {vs : List V} {ds : List D} (n : Nat), Reps K F vs ds → Reps K F (vs.take n) (ds.take n)
  | _, _, 0, _ => .nil
  | _, _, _ + 1, .nil => .nil
  | _, _, n + 1, .cons h t => .cons h (Reps.take n t)
theorem Reps.drop {K : PySem.W.Frag} {F : Hp} : ∀ {vs : List V} {ds : List D} (n : Nat), Reps K F vs ds → Reps K F (vs.drop n) (ds.drop n)
  | _, _, 0, r => r
  | _, _, _ + 1, .nil => .nil
  | _, _, n + 1, .cons h t => Reps.drop n t
theorem Reps.set {K : PySem.W.Frag} {F : Hp} {v : V} {d : D} (h : Rep K F v d) : ∀ {vs : List V} {ds : List D} (n : Nat), Reps K F vs ds → Reps K F (vs.set n v) (ds.set n d)
  | _, _, _, .nil => .nil
  | _, _, 0, .cons _ t => .cons h t
  | _, _, n + 1, .cons g t => .cons g (Reps.set h n t)
theorem Reps.ints {K : PySem.W.Frag} {F : Hp} : ∀ {ns : List Int}, Reps K F (ns.map V.int) (ns.map D.int)
  | [] => .nil
  | n :: ns => .cons (.int n) (Reps.ints (ns := ns))
theorem Reps.bls {K : PySem.W.Frag} {F : Hp} : ∀ {bs : List Bool} {vs : List V}, Reps K F vs (bs.map D.bl) → vs = bs.map V.bl
  | [], _, .nil => rfl
  | b :: bs, _, .cons h t => by
    cases h
    show _ :: _ = _ :: _
    rw [Reps.bls t]
theorem Reps.intsV {K : PySem.W.Frag} {F : Hp} : ∀ {ns : List Int} {vs : List V}, Reps K F vs (ns.map D.int) → vs = ns.map V.int
  | [], _, .nil => rfl
  | n :: ns, _, .cons h t => by
    cases h
    show _ :: _ = _ :: _
    rw [Reps.intsV t]

/-- the type of a thing -/
def tyD : D → Value
  | .non => .type "NoneType" | .bl _ => .type "bool" | .int _ => .type "int" | .str _ => .type "str" | .tup _ => .type "tuple" | .lst _ => .type "list" | .fl _ => .type "list" | .ty _ => .type "type" | .oth t => t | .ins C _ => .ref C
def noTy : D → Prop | .ty _ => False | .ins _ _ => False | _ => True
theorem Rep.tyX {K : PySem.W.Frag} {F : Hp} {v : V} {d : D} (h : Rep K F v d) (n : noTy d) : TyX K F v (tyD d) := by
  cases h with
  | non => exact .base .non
  | bl b => exact .base (.bl b)
  | int i => exact .base (.int i)
  | str x => exact .base (.str x)
  | tup h _ =>
    rcases h with (h | ⟨o, h⟩) | ⟨o, its, n, h, c, _⟩
    · exact .base (.tup h)
    · exact .fTuple h
    · exact .kTuple h c
  | lst h _ => exact .base (.lst h)
  | fl h _ =>
    rcases h with (h | ⟨o, h⟩) | ⟨o, its, n, h, c, _⟩
    · exact .base (.lst h)
    · exact .base (.frz h)
    · exact .kList h c
  | ty n => exact n.elim
  | oth h => exact h
  | ins _ _ => exact n.elim

/-! ## the state -/
inductive Cont where
  | lst (ds : List D) | obj (C dx : Addr) (fs : List (Str × D))
inductive Cell where
  | any | dat (d : D) | own (p : Addr) (c : Cont)
/-- no table of code objects -/
def NT (o : HO) : Prop := ∀ ps, o ≠ .tbl ps
theorem nt_lst {xs : List V} : NT (.lst xs) := fun ps z => by cases z
theorem nt_xd {xs : List (Str × V)} : NT (.xd xs) := fun ps z => by cases z
theorem nt_ins {C dx : Addr} {fs : List (Str × V)} : NT (.ins C dx fs) := fun ps z => by cases z
inductive CRep (K : PySem.W.Frag) (F : Hp) : HO → Cont → Prop
  | lst {vs : List V} {ds : List D} : Reps K F vs ds → CRep K F (.lst vs) (.lst ds)
  | obj {C dx : Addr} {vs : List (Str × V)} {ds : List (Str × D)} : FRep K F vs ds → CRep K F (.ins C dx vs) (.obj C dx ds)
theorem CRep.mono {K : PySem.W.Frag} {F F' : Hp} {o : HO} {c : Cont} (s : Same F F') (h : CRep K F o c) : CRep K F' o c := by
  cases h with
  | lst r => exact .lst (r.mono s)
  | obj r => exact .obj (r.mono s)
theorem CRep.nt {K : PySem.W.Frag} {F : Hp} {o : HO} {c : Cont} (h : CRep K F o c) : NT o := by
  cases h with
  | lst r => exact nt_lst
  | obj r => exact nt_ins

/-- a mutable list that is the frame's own -/
def OwnOk (K : PySem.W.Frag) (F H : Hp) (τ : List Cell) : Prop := ∀ (i : Nat) (p : Addr) (ds : Cont), τ[i]? = some (Cell.own p ds) → F p = none ∧ ∃ vs, H p = some vs ∧ CRep K F vs ds
def SlotOk (K : PySem.W.Frag) (F : Hp) (s : Option V) : Cell → Prop
  | .any => True
  | .dat d => ∃ v, s = some v ∧ Rep K F v d
  | .own p _ => s = some (.ref p)
/-- the tables of code objects that are in use -/
class TabT where
  T : List (Addr × Str)
variable [TB : TabT]
theorem tabs_upd {T : List (Addr × Str)} {H : Hp} {p : Addr} {o : HO} (h : ∀ u, H p = some u → (∀ ps, u ≠ .tbl ps) ∧ ∀ c q, u ≠ LamX.CodeO c q) (t : LamX.Tabs T H) : LamX.Tabs T (upd H p o) := by
  intro x hx
  obtain ⟨ps, h1, h2, h3⟩ := t x hx
  refine ⟨ps, ?_, h2, fun pos cv e => ?_⟩
  · rw [upd_ne (fun z => by rw [z] at h1; exact (h _ h1).1 ps rfl)]
    exact h1
  · obtain ⟨c, e1, e2⟩ := h3 pos cv e
    refine ⟨c, e1, ?_⟩
    rw [upd_ne (fun z => by rw [z] at e2; exact (h _ e2).2 _ _ rfl)]
    exact e2
theorem tabs_new {T : List (Addr × Str)} {H : Hp} {p : Addr} {o : HO} (h : H p = none) (t : LamX.Tabs T H) : LamX.Tabs T (upd H p o) := tabs_upd (fun u e => by rw [h] at e; cases e) t
theorem tabs_crep {T : List (Addr × Str)} {K : PySem.W.Frag} {F H : Hp} {p : Addr} {o u : HO} {c : Cont} (h : H p = some u) (r : CRep K F u c) (t : LamX.Tabs T H) : LamX.Tabs T (upd H p o) :=
  tabs_upd (fun v e => by
    rw [h] at e
    cases e
    refine ⟨r.nt, fun c q z => ?_⟩
    unfold LamX.CodeO at z
    cases r <;> cases z) t
theorem tabs_lst {T : List (Addr × Str)} {H : Hp} {p : Addr} {o : HO} {xs : List V} (h : H p = some (.lst xs)) : LamX.Tabs T H → LamX.Tabs T (upd H p o) :=
  tabs_upd fun v e => by
    rw [h] at e
    cases e
    exact ⟨fun ps z => (by cases z), fun c q z => (by unfold LamX.CodeO at z; cases z)⟩
theorem tabs_dK {T : List (Addr × Str)} {H : Hp} {p : Addr} {o : HO} {xs : List (Key × V)} (h : H p = some (.dK xs)) : LamX.Tabs T H → LamX.Tabs T (upd H p o) :=
  tabs_upd fun v e => by
    rw [h] at e
    cases e
    exact ⟨fun ps z => (by cases z), fun c q z => (by unfold LamX.CodeO at z; cases z)⟩
/-- the tables stand, and no data is one -/
def Good (F H : Hp) : Prop := LamX.Tabs TB.T H ∧ ∀ a o, F a = some o → NT o
theorem nt_upd {F : Hp} {p : Addr} {o : HO} (nt : NT o) (h : ∀ a u, F a = some u → NT u) : ∀ a u, upd F p o a = some u → NT u := fun a u e => by
  by_cases q : a = p
  · subst q; rw [upd_same] at e; cases e; exact nt
  · rw [upd_ne q] at e; exact h a u e
structure SOk (K : PySem.W.Frag) (F H : Hp) (σ : L2.St) (τ : List Cell) : Prop where
  tabs : Good F H
  sub : Same F H
  len : σ.length = τ.length
  slot : ∀ (i : Nat) (s : Option V) (c : Cell), σ[i]? = some s → τ[i]? = some c → SlotOk K F s c
  own : OwnOk K F H τ
  inj : ∀ (i j : Nat) (p : Addr) (ds es : Cont), τ[i]? = some (Cell.own p ds) → τ[j]? = some (Cell.own p es) → i = j
def IsOwn (τ : List Cell) (p : Addr) : Prop := ∃ (i : Nat) (ds : Cont), τ[i]? = some (Cell.own p ds)
/-- nothing is there, or a table -/
def Fr (H : Hp) (a : Addr) : Prop := ∀ o, H a = some o → ¬ NT o
theorem fr_none {H : Hp} {a : Addr} (h : H a = none) : Fr H a := fun o e => by rw [h] at e; cases e
theorem fr_ne {H : Hp} {a p : Addr} {o : HO} (e : H a = some o) (nt : NT o) (h : Fr H p) : a ≠ p := fun z => h o (by rw [← z]; exact e) nt
/-- from (F, H) to (F', H'), where what is own may change -/
structure Ext (τ : List Cell) (F H F' H' : Hp) : Prop where
  f : Same F F'
  new : ∀ a o, F' a = some o → F a = some o ∨ Fr H a ∨ IsOwn τ a
  keep : ∀ a o, H a = some o → ¬ IsOwn τ a → NT o → H' a = some o
  there : ∀ a, Fr H' a → Fr H a
  tabs : Good F H → Good F' H'
/-- what is own behind was own ahead, or is new -/
def Grow (τ : List Cell) (H : Hp) (τ' : List Cell) : Prop := ∀ p, IsOwn τ' p → IsOwn τ p ∨ Fr H p
theorem Ext.refl (τ : List Cell) (F H : Hp) : Ext τ F H F H := ⟨Same.refl F, fun _ _ h => .inl h, fun _ _ h _ _ => h, fun _ h => h, id⟩
theorem Grow.refl (τ : List Cell) (H : Hp) : Grow τ H τ := fun _ h => .inl h
theorem Ext.trans {τ τ1 : List Cell} {F H F1 H1 F2 H2 : Hp} (a : Ext τ F H F1 H1) (g : Grow τ H τ1) (b : Ext τ1 F1 H1 F2 H2) : Ext τ F H F2 H2 := by
  refine ⟨a.f.trans b.f, fun x o e => ?_, fun x o e n nt => ?_, fun x h => a.there x (b.there x h), fun t => b.tabs (a.tabs t)⟩
  · rcases b.new x o e with h | h | h
    · exact a.new x o h
    · exact .inr (.inl (a.there x h))
    · rcases g x h with h | h
      · exact .inr (.inr h)
      · exact .inr (.inl h)
  · refine b.keep x o (a.keep x o e n nt) (fun h => ?_) nt
    rcases g x h with h | h
    · exact n h
    · exact h o e nt
theorem Grow.trans {τ τ1 τ2 : List Cell} {F H F1 H1 : Hp} (a : Ext τ F H F1 H1) (g : Grow τ H τ1) (g' : Grow τ1 H1 τ2) : Grow τ H τ2 := fun p h => by
  rcases g' p h with h | h
  · exact g p h
  · exact .inr (a.there p h)
/-- a new frozen object -/
theorem Ext.laid {τ : List Cell} {F H : Hp} {p : Addr} {o : HO} (s : Same F H) (h : H p = none) (nt : NT o) : Ext τ F H (upd F p o) (upd H p o) := by
  refine ⟨fun a u e => ?_, fun a u e => ?_, fun a u e _ _ => ?_, fun a e => ?_, fun g => ⟨tabs_new h g.1, nt_upd nt g.2⟩⟩
  · rw [upd_ne (ne_of_none (s _ _ e) h)]; exact e
  · by_cases q : a = p
    · subst q; exact .inr (.inl (fr_none h))
    · rw [upd_ne q] at e; exact .inl e
  · rw [upd_ne (ne_of_none e h)]; exact e
  · by_cases q : a = p
    · subst q; exact fr_none h
    · exact fun o' e' => e o' (by rw [upd_ne q]; exact e')
/-- a new object that is not tracked as data -/
theorem Ext.laid0 {τ : List Cell} {F H : Hp} {p : Addr} {o : HO} (h : H p = none) : Ext τ F H F (upd H p o) := by
  refine ⟨Same.refl F, fun a u e => .inl e, fun a u e _ _ => ?_, fun a e => ?_, fun g => ⟨tabs_new h g.1, g.2⟩⟩
  · rw [upd_ne (ne_of_none e h)]; exact e
  · by_cases q : a = p
    · subst q; exact fr_none h
    · exact fun o' e' => e o' (by rw [upd_ne q]; exact e')
theorem SlotOk.mono {K : PySem.W.Frag} {F F' : Hp} (s : Same F F') {v : Option V} {c : Cell} (h : SlotOk K F v c) : SlotOk K F' v c := by
  cases c with
  | any => exact trivial
  | dat d => obtain ⟨x, e, r⟩ := h; exact ⟨x, e, r.mono s⟩
  | own p ds => exact h
/-- a step that changes nothing of what is own -/
theorem SOk.ext {K : PySem.W.Frag} {F H F' H' : Hp} {σ : L2.St} {τ : List Cell} (S : SOk K F H σ τ) (e : Ext [] F H F' H') (sub : Same F' H') : SOk K F' H' σ τ := by
  have no : ∀ a, ¬ IsOwn [] a := fun a ⟨i, ds, h⟩ => by simp at h
  refine ⟨e.tabs S.tabs, sub, S.len, fun i s c h1 h2 => (S.slot i s c h1 h2).mono e.f, fun i p ds h => ?_, S.inj⟩
  obtain ⟨h1, vs, h2, h3⟩ := S.own i p ds h
  refine ⟨?_, vs, e.keep p _ h2 (no p) h3.nt, h3.mono e.f⟩
  cases q : F' p with
  | none => rfl
  | some u =>
    rcases e.new p u q with z | z | z
    · rw [h1] at z; cases z
    · exact (z _ h2 h3.nt).elim
    · exact absurd z (no p)
theorem Ext.wk {τ : List Cell} {F H F' H' : Hp} (e : Ext [] F H F' H') : Ext τ F H F' H' := by
  have no : ∀ a, ¬ IsOwn [] a := fun a ⟨i, ds, h⟩ => by simp at h
  refine ⟨e.f, fun a o h => ?_, fun a o h _ nt => e.keep a o h (no a) nt, e.there, e.tabs⟩
  rcases e.new a o h with z | z | z
  · exact .inl z
  · exact .inr (.inl z)
  · exact absurd z (no a)

/-! ## judgements -/
structure Xn where
  cls : Addr
  fs : List (Str × D)
structure XRep (K : PySem.W.Frag) (F H : Hp) (cls : Value) (dx : Option Addr) (x : Xn) : Prop where
  c : cls = .ref x.cls
  f : (x.fs = [] ∧ dx = none) ∨ (x.fs ≠ [] ∧ ∃ a vs, dx = some a ∧ H a = some (.xd vs) ∧ FRep K F vs x.fs)

abbrev EW := List Cell → (D → List Cell → Prop) → (Xn → List Cell → Prop) → Prop
abbrev TW := List Cell → (Bool → List Cell → Prop) → (Xn → List Cell → Prop) → Prop
abbrev AW := List Cell → (List D → List Cell → Prop) → (Xn → List Cell → Prop) → Prop
structure EndsD where
  nx : List Cell → Prop
  rt : D → List Cell → Prop
  rf : List D → List Cell → Prop := fun _ _ => False
  bk : List Cell → Prop := fun _ => False
  ct : List Cell → Prop := fun _ => False
  ex : Xn → List Cell → Prop := fun _ _ => False
abbrev SW := EndsD → List Cell → Prop

/-- where an expression has led -/
structure To (K : PySem.W.Frag) (F H : Hp) (σ : L2.St) (τ : List Cell) (F' H' : Hp) (τ' : List Cell) : Prop where
  ext : Ext τ F H F' H'
  grow : Grow τ H τ'
  ok : SOk K F' H' σ τ'
theorem To.refl {K : PySem.W.Frag} {F H : Hp} {σ : L2.St} {τ : List Cell} (S : SOk K F H σ τ) : To K F H σ τ F H τ := ⟨.refl _ _ _, .refl _ _, S⟩
theorem To.trans {K : PySem.W.Frag} {F H F1 H1 F2 H2 : Hp} {σ σ' : L2.St} {τ τ1 τ2 : List Cell} (a : To K F H σ τ F1 H1 τ1) (b : To K F1 H1 σ' τ1 F2 H2 τ2) : To K F H σ' τ F2 H2 τ2 :=
  ⟨a.ext.trans a.grow b.ext, .trans a.ext a.grow b.grow, b.ok⟩
theorem To.small {K : PySem.W.Frag} {F H F' H' : Hp} {σ : L2.St} {τ : List Cell} (S : SOk K F H σ τ) (e : Ext [] F H F' H') (sub : Same F' H') : To K F H σ τ F' H' τ := ⟨e.wk, .refl _ _, S.ext e sub⟩

def XTo (K : PySem.W.Frag) (W : WX) (F H : Hp) (σ : L2.St) (τ : List Cell) (e : Xn → List Cell → Prop) : Prop :=
  ∀ x cls dx τ' F' H', To K F H σ τ F' H' τ' → XRep K F' H' cls dx x → e x τ' → W cls dx σ H'
theorem XTo.of {K : PySem.W.Frag} {W : WX} {F H F1 H1 : Hp} {σ : L2.St} {τ τ1 : List Cell} {e : Xn → List Cell → Prop} (x : XTo K W F H σ τ e) (t : To K F H σ τ F1 H1 τ1) : XTo K W F1 H1 σ τ1 e :=
  fun y cls dx τ' F' H' u r q => x y cls dx τ' F' H' (t.trans u) r q
structure DE (K : PySem.W.Frag) (W : WX) (t : TE) (w : EW) : Prop where
  run : ∀ σ H τ F Q q e, SOk K F H σ τ → w τ q e → (∀ v d τ' F' H', To K F H σ τ F' H' τ' → Rep K F' v d → q d τ' → Q v H') → XTo K W F H σ τ e → t σ H Q
structure DT (K : PySem.W.Frag) (W : WX) (t : TT) (w : TW) : Prop where
  run : ∀ σ H τ F Q q e, SOk K F H σ τ → w τ q e → (∀ b τ' F' H', To K F H σ τ F' H' τ' → q b τ' → Q b H') → XTo K W F H σ τ e → t σ H Q
structure DA (K : PySem.W.Frag) (W : WX) (t : TA) (w : AW) : Prop where
  run : ∀ σ H τ F Q q e, SOk K F H σ τ → w τ q e → (∀ vs ds τ' F' H', To K F H σ τ F' H' τ' → Reps K F' vs ds → q ds τ' → Q vs H') → XTo K W F H σ τ e → t σ H Q

section
variable {K : PySem.W.Frag} {W : WX}

def wVar (i : Nat) : EW := fun τ q _ => ∃ d, τ[i]? = some (.dat d) ∧ q d τ
theorem de_var (i : Nat) : DE K W (tVar i) (wVar i) := by
  refine ⟨fun σ H τ F Q q e S ⟨d, h, hq⟩ k _ => ?_⟩
  have hi : i < σ.length := by rw [S.len]; exact (List.getElem?_eq_some_iff.mp h).1
  obtain ⟨v, e1, r⟩ := S.slot i σ[i] _ (List.getElem?_eq_getElem hi) h
  exact ⟨v, by rw [List.getElem?_eq_getElem hi, e1], k v d τ F H (.refl S) r hq⟩
def wC (d : D) : EW := fun τ q _ => q d τ
theorem de_c {v : V} {d : D} (h : ∀ F, Rep K F v d) : DE K W (tC v) (wC d) := ⟨fun σ H τ F Q q e S hq k _ => k v d τ F H (.refl S) (h F) hq⟩
theorem de_int {i : Int} : DE K W (tC (.int i)) (wC (.int i)) := de_c fun _ => .int i
theorem de_bl {i : Bool} : DE K W (tC (.bl i)) (wC (.bl i)) := de_c fun _ => .bl i
theorem de_non : DE K W (tC .non) (wC .non) := de_c fun _ => .non
theorem de_str {x : Str} : DE K W (tC (.str x)) (wC (.str x)) := de_c fun _ => .str x

/-- an operation that changes nothing that is there -/
def Op2 (K : PySem.W.Frag) (r : R2) (g : D → D → (D → Prop) → Prop) : Prop :=
  ∀ F H x y d1 d2 (q : D → Prop) Q, Same F H → Rep K F x d1 → Rep K F y d2 → g d1 d2 q → (∀ v d F' H', Ext [] F H F' H' → Same F' H' → Rep K F' v d → q d → Q v H') → r x y H Q
def wOp (g : D → D → (D → Prop) → Prop) (wa wb : EW) : EW := fun τ q e => wa τ (fun d1 τ1 => wb τ1 (fun d2 τ2 => g d1 d2 fun d => q d τ2) e) e
theorem de_op {r : R2} {g : D → D → (D → Prop) → Prop} {ta tb : TE} {wa wb : EW} (o : Op2 K r g) (ha : DE K W ta wa) (hb : DE K W tb wb) : DE K W (tOp r ta tb) (wOp g wa wb) := by
  refine ⟨fun σ H τ F Q q e S h k x => ?_⟩
  refine ha.run σ H τ F _ _ e S h (fun v1 d1 τ1 F1 H1 t1 r1 h1 => ?_) x
  refine hb.run σ H1 τ1 F1 _ _ e t1.ok h1 (fun v2 d2 τ2 F2 H2 t2 r2 h2 => ?_) (x.of t1)
  refine o F2 H2 v1 v2 d1 d2 _ Q t2.ok.sub (r1.mono t2.ext.f) r2 h2 fun v d F3 H3 e3 s3 r3 h3 => ?_
  exact k v d τ2 F3 H3 ((t1.trans t2).trans (.small t2.ok e3 s3)) r3 h3
def g2I (f : Int → Int → D) : D → D → (D → Prop) → Prop := fun x y q => ∃ i j, x = .int i ∧ y = .int j ∧ q (f i j)
def g2IC (C : Int → Int → Prop) (f : Int → Int → D) : D → D → (D → Prop) → Prop := fun x y q => ∃ i j, x = .int i ∧ y = .int j ∧ C i j ∧ q (f i j)
theorem Rep.int_of {F : Hp} {v : V} {i : Int} (h : Rep K F v (.int i)) : v = .int i := by cases h; rfl
theorem Rep.bl_of {F : Hp} {v : V} {i : Bool} (h : Rep K F v (.bl i)) : v = .bl i := by cases h; rfl
theorem op2I {f : Int → Int → V} {g : Int → Int → D} (h : ∀ F i j, Rep K F (f i j) (g i j)) : Op2 K (rI0 f) (g2I g) := by
  rintro F H x y d1 d2 q Q s r1 r2 ⟨i, j, rfl, rfl, hq⟩ k
  exact ⟨i, j, r1.int_of, r2.int_of, k _ _ F H (.refl _ _ _) s (h F i j) hq⟩
theorem op2IC {C : Int → Int → Prop} {f : Int → Int → V} {g : Int → Int → D} (h : ∀ F i j, Rep K F (f i j) (g i j)) : Op2 K (rI C f) (g2IC C g) := by
  rintro F H x y d1 d2 q Q s r1 r2 ⟨i, j, rfl, rfl, hc, hq⟩ k
  exact ⟨i, j, r1.int_of, r2.int_of, hc, k _ _ F H (.refl _ _ _) s (h F i j) hq⟩
theorem o_add : Op2 K (rI0 fun i j => .int (i + j)) (g2I fun i j => .int (i + j)) := op2I fun _ _ _ => .int _
theorem o_sub : Op2 K (rI0 fun i j => .int (i - j)) (g2I fun i j => .int (i - j)) := op2I fun _ _ _ => .int _
theorem o_lt : Op2 K (rI0 fun i j => .bl (decide (i < j))) (g2I fun i j => .bl (decide (i < j))) := op2I fun _ _ _ => .bl _
theorem o_le : Op2 K (rI0 fun i j => .bl (decide (i ≤ j))) (g2I fun i j => .bl (decide (i ≤ j))) := op2I fun _ _ _ => .bl _
theorem o_gt : Op2 K (rI0 fun i j => .bl (decide (j < i))) (g2I fun i j => .bl (decide (j < i))) := op2I fun _ _ _ => .bl _
theorem o_ge : Op2 K (rI0 fun i j => .bl (decide (j ≤ i))) (g2I fun i j => .bl (decide (j ≤ i))) := op2I fun _ _ _ => .bl _
theorem o_mul : Op2 K (rI CMul fun i j => .int (i * j)) (g2IC CMul fun i j => .int (i * j)) := op2IC fun _ _ _ => .int _
theorem o_fdiv : Op2 K (rI CDiv fun i j => .int (i / j)) (g2IC CDiv fun i j => .int (i / j)) := op2IC fun _ _ _ => .int _
theorem o_mod : Op2 K (rI (fun _ j => 0 < j) fun i j => .int (i % j)) (g2IC (fun _ j => 0 < j) fun i j => .int (i % j)) := op2IC fun _ _ _ => .int _
theorem o_pow : Op2 K (rI CPow fun i j => .int (i ^ j.toNat)) (g2IC CPow fun i j => .int (i ^ j.toNat)) := op2IC fun _ _ _ => .int _

end
end L3

/-! ## expressions, on -/
namespace L3
open PySem PySem.Spec PyProof.Rows L2
variable [TB : TabT]
section
variable {K : PySem.W.Frag} {W : WX}

/-- an expression and its reading by data -/
def CE (X : Cx) (W : WX) (e : Expr) (w : EW) : Prop := ∃ t, PE X e t ∧ DE X.K W t w
def CT (X : Cx) (W : WX) (e : Expr) (w : TW) : Prop := ∃ t, PT X e t ∧ DT X.K W t w
def CA (X : Cx) (W : WX) (es : List Expr) (w : AW) : Prop := ∃ t, PA X es t ∧ DA X.K W t w

def wB (we : EW) : TW := fun τ q e => we τ (fun d τ' => ∃ b, d = .bl b ∧ q b τ') e
theorem dt_B {t : TE} {w : EW} (h : DE K W t w) : DT K W (tB t) (wB w) := by
  refine ⟨fun σ H τ F Q q e S hw k x => h.run σ H τ F _ _ e S hw (fun v d τ' F' H' t' r ⟨b, e', hq⟩ => ?_) x⟩
  subst e'
  exact ⟨b, r.bl_of, k b τ' F' H' t' hq⟩
def wNot (wt : TW) : TW := fun τ q e => wt τ (fun b τ' => q (!b) τ') e
theorem dt_not {t : TT} {w : TW} (h : DT K W t w) : DT K W (tNot t) (wNot w) :=
  ⟨fun σ H τ F Q q e S hw k x => h.run σ H τ F _ _ e S hw (fun b τ' F' H' t' hq => k _ τ' F' H' t' hq) x⟩
def wAnd (wa wb : TW) : TW := fun τ q e => wa τ (fun b τ' => (b = true → wb τ' q e) ∧ (b = false → q false τ')) e
theorem dt_and {t u : TT} {w v : TW} (h : DT K W t w) (g : DT K W u v) : DT K W (tAnd t u) (wAnd w v) := by
  refine ⟨fun σ H τ F Q q e S hw k x => h.run σ H τ F _ _ e S hw (fun b τ' F' H' t' ⟨h1, h2⟩ => ?_) x⟩
  cases b with
  | true =>
    refine iteT ?_
    exact g.run σ H' τ' F' _ _ e t'.ok (h1 rfl) (fun b τ2 F2 H2 t2 hq => k b τ2 F2 H2 (t'.trans t2) hq) (x.of t')
  | false => exact iteF (k false τ' F' H' t' (h2 rfl))
def wOr (wa wb : TW) : TW := fun τ q e => wa τ (fun b τ' => (b = false → wb τ' q e) ∧ (b = true → q true τ')) e
theorem dt_or {t u : TT} {w v : TW} (h : DT K W t w) (g : DT K W u v) : DT K W (tOr t u) (wOr w v) := by
  refine ⟨fun σ H τ F Q q e S hw k x => h.run σ H τ F _ _ e S hw (fun b τ' F' H' t' ⟨h1, h2⟩ => ?_) x⟩
  cases b with
  | false =>
    refine iteF ?_
    exact g.run σ H' τ' F' _ _ e t'.ok (h1 rfl) (fun b τ2 F2 H2 t2 hq => k b τ2 F2 H2 (t'.trans t2) hq) (x.of t')
  | true => exact iteT (k true τ' F' H' t' (h2 rfl))
def wAndV (wa wb : EW) : EW := fun τ q e => wa τ (fun d τ' => ∃ b, d = .bl b ∧ (b = true → wb τ' q e) ∧ (b = false → q (.bl false) τ')) e
theorem de_and {t u : TE} {w v : EW} (h : DE K W t w) (g : DE K W u v) : DE K W (tAndV t u) (wAndV w v) := by
  refine ⟨fun σ H τ F Q q e S hw k x => h.run σ H τ F _ _ e S hw (fun z d τ' F' H' t' r ⟨b, e', h1, h2⟩ => ?_) x⟩
  subst e'
  refine ⟨b, r.bl_of, ?_⟩
  cases b with
  | true =>
    refine iteT ?_
    exact g.run σ H' τ' F' _ _ e t'.ok (h1 rfl) (fun z b τ2 F2 H2 t2 r2 hq => k z b τ2 F2 H2 (t'.trans t2) r2 hq) (x.of t')
  | false => exact iteF (k _ _ τ' F' H' t' (.bl false) (h2 rfl))
def wOrV (wa wb : EW) : EW := fun τ q e => wa τ (fun d τ' => ∃ b, d = .bl b ∧ (b = false → wb τ' q e) ∧ (b = true → q (.bl true) τ')) e
theorem de_or {t u : TE} {w v : EW} (h : DE K W t w) (g : DE K W u v) : DE K W (tOrV t u) (wOrV w v) := by
  refine ⟨fun σ H τ F Q q e S hw k x => h.run σ H τ F _ _ e S hw (fun z d τ' F' H' t' r ⟨b, e', h1, h2⟩ => ?_) x⟩
  subst e'
  refine ⟨b, r.bl_of, ?_⟩
  cases b with
  | false =>
    refine iteF ?_
    exact g.run σ H' τ' F' _ _ e t'.ok (h1 rfl) (fun z b τ2 F2 H2 t2 r2 hq => k z b τ2 F2 H2 (t'.trans t2) r2 hq) (x.of t')
  | true => exact iteT (k _ _ τ' F' H' t' (.bl true) (h2 rfl))
def wNotV (wa : EW) : EW := fun τ q e => wa τ (fun d τ' => ∃ b, d = .bl b ∧ q (.bl (!b)) τ') e
theorem de_not {t : TE} {w : EW} (h : DE K W t w) : DE K W (tNotV t) (wNotV w) := by
  refine ⟨fun σ H τ F Q q e S hw k x => h.run σ H τ F _ _ e S hw (fun z d τ' F' H' t' r ⟨b, e', h1⟩ => ?_) x⟩
  subst e'
  exact ⟨b, r.bl_of, k _ _ τ' F' H' t' (.bl _) h1⟩
def wIf (wc : TW) (wa wb : EW) : EW := fun τ q e => wc τ (fun b τ' => (b = true → wa τ' q e) ∧ (b = false → wb τ' q e)) e
theorem de_if {c : TT} {t u : TE} {wc : TW} {w v : EW} (h : DT K W c wc) (g : DE K W t w) (l : DE K W u v) : DE K W (tIf c t u) (wIf wc w v) := by
  refine ⟨fun σ H τ F Q q e S hw k x => h.run σ H τ F _ _ e S hw (fun b τ' F' H' t' ⟨h1, h2⟩ => ?_) x⟩
  cases b with
  | true =>
    refine iteT ?_
    exact g.run σ H' τ' F' _ _ e t'.ok (h1 rfl) (fun z b τ2 F2 H2 t2 r2 hq => k z b τ2 F2 H2 (t'.trans t2) r2 hq) (x.of t')
  | false =>
    refine iteF ?_
    exact l.run σ H' τ' F' _ _ e t'.ok (h2 rfl) (fun z b τ2 F2 H2 t2 r2 hq => k z b τ2 F2 H2 (t'.trans t2) r2 hq) (x.of t')
def wChain (g g' : D → D → (D → Prop) → Prop) (wa wb wc : EW) : EW := fun τ q e => wa τ (fun d1 τ1 => wb τ1 (fun d2 τ2 => g d1 d2 fun d => ∃ b, d = .bl b ∧
  (b = true → wc τ2 (fun d3 τ3 => g' d2 d3 fun d => q d τ3) e) ∧ (b = false → q (.bl false) τ2)) e) e
theorem de_chain {r r' : R2} {g g' : D → D → (D → Prop) → Prop} {ta tb tc : TE} {wa wb wc : EW} (o : Op2 K r g) (o' : Op2 K r' g') (ha : DE K W ta wa) (hb : DE K W tb wb) (hc : DE K W tc wc) : DE K W (tChain r r' ta tb tc) (wChain g g' wa wb wc) := by
  refine ⟨fun σ H τ F Q q e S h k x => ?_⟩
  refine ha.run σ H τ F _ _ e S h (fun v1 d1 τ1 F1 H1 t1 r1 h1 => ?_) x
  refine hb.run σ H1 τ1 F1 _ _ e t1.ok h1 (fun v2 d2 τ2 F2 H2 t2 r2 h2 => ?_) (x.of t1)
  refine o F2 H2 v1 v2 d1 d2 _ _ t2.ok.sub (r1.mono t2.ext.f) r2 h2 fun v d F3 H3 e3 s3 r3 ⟨b, eb, h3, h4⟩ => ?_
  subst eb
  have t3 : To K F2 H2 σ τ2 F3 H3 τ2 := .small t2.ok e3 s3
  have t03 := (t1.trans t2).trans t3
  refine ⟨b, r3.bl_of, ?_⟩
  cases b with
  | false => exact iteF (k _ _ τ2 F3 H3 t03 (.bl false) (h4 rfl))
  | true =>
    refine iteT ?_
    refine hc.run σ H3 τ2 F3 _ _ e t3.ok (h3 rfl) (fun v4 d4 τ4 F4 H4 t4 r4 h5 => ?_) (x.of t03)
    refine o' F4 H4 v2 v4 d2 d4 _ Q t4.ok.sub (r2.mono ((e3.f).trans t4.ext.f)) r4 h5 fun v d F5 H5 e5 s5 r5 h6 => ?_
    exact k v d τ4 F5 H5 ((t03.trans t4).trans (.small t4.ok e5 s5)) r5 h6

/-! ### arguments, calls of built-ins -/
def wNil : AW := fun τ q _ => q [] τ
def wCons (we : EW) (wa : AW) : AW := fun τ q e => we τ (fun d τ1 => wa τ1 (fun ds τ2 => q (d :: ds) τ2) e) e
theorem da_nil : DA K W tNil wNil := ⟨fun σ H τ F Q q e S hq k _ => k [] [] τ F H (.refl S) .nil hq⟩
theorem da_cons {t : TE} {u : TA} {w : EW} {v : AW} (h : DE K W t w) (g : DA K W u v) : DA K W (tCons t u) (wCons w v) := by
  refine ⟨fun σ H τ F Q q e S hw k x => h.run σ H τ F _ _ e S hw (fun z d τ' F' H' t' r h1 => ?_) x⟩
  refine g.run σ H' τ' F' _ _ e t'.ok h1 (fun zs ds τ2 F2 H2 t2 r2 hq => ?_) (x.of t')
  exact k (z :: zs) (d :: ds) τ2 F2 H2 (t'.trans t2) (.cons (r.mono t2.ext.f) r2) hq
def OpN (K : PySem.W.Frag) (r : List V → Hp → VK → Prop) (g : List D → (D → Prop) → Prop) : Prop :=
  ∀ F H xs ds (q : D → Prop) Q, Same F H → Reps K F xs ds → g ds q → (∀ v d F' H', Ext [] F H F' H' → Same F' H' → Rep K F' v d → q d → Q v H') → r xs H Q
def wCB (g : List D → (D → Prop) → Prop) (wa : AW) : EW := fun τ q e => wa τ (fun ds τ' => g ds fun d => q d τ') e
theorem de_cb {r : List V → Hp → VK → Prop} {g : List D → (D → Prop) → Prop} {t : TA} {w : AW} (o : OpN K r g) (h : DA K W t w) : DE K W (tCB r t) (wCB g w) := by
  refine ⟨fun σ H τ F Q q e S hw k x => h.run σ H τ F _ _ e S hw (fun zs ds τ' F' H' t' r' h1 => ?_) x⟩
  refine o F' H' zs ds _ Q t'.ok.sub r' h1 fun v d F2 H2 e2 s2 r2 hq => ?_
  exact k v d τ' F2 H2 (t'.trans (.small t'.ok e2 s2)) r2 hq
def seqD : D → Option (List D)
  | .tup ds => some ds | .lst ds => some ds | .fl ds => some ds | _ => none
theorem Rep.seq {F : Hp} {v : V} {d : D} {ds : List D} (h : Rep K F v d) (e : seqD d = some ds) : ∃ a xs, v = .ref a ∧ (SqL K F a xs ∨ SqT K F a xs) ∧ Reps K F xs ds := by
  cases h with
  | tup h r => cases e; exact ⟨_, _, rfl, .inr h, r⟩
  | lst h r => cases e; exact ⟨_, _, rfl, .inl (.inl (.inl h)), r⟩
  | fl h r => cases e; exact ⟨_, _, rfl, .inl h, r⟩
  | _ => cases e
theorem Reps.one {F : Hp} {xs : List V} {d : D} (h : Reps K F xs [d]) : ∃ v, xs = [v] ∧ Rep K F v d := by
  cases h with
  | cons h t => cases t; exact ⟨_, rfl, h⟩
theorem Reps.two {F : Hp} {xs : List V} {d d' : D} (h : Reps K F xs [d, d']) : ∃ v v', xs = [v, v'] ∧ Rep K F v d ∧ Rep K F v' d' := by
  cases h with
  | cons h t => obtain ⟨u, rfl, r⟩ := Reps.one t; exact ⟨_, _, rfl, h, r⟩
def gLen : List D → (D → Prop) → Prop := fun ds q => ∃ d es, ds = [d] ∧ seqD d = some es ∧ q (.int es.length)
def rLenS (K : PySem.W.Frag) : List V → Hp → VK → Prop := fun xs H Q => ∃ p ys, xs = [.ref p] ∧ (SqL K H p ys ∨ SqT K H p ys) ∧ Q (.int ys.length) H
theorem o_len : OpN K (rLenS K) gLen := by
  rintro F H xs ds q Q s r ⟨d, es, rfl, e, hq⟩ k
  obtain ⟨v, rfl, r1⟩ := r.one
  obtain ⟨a, ys, rfl, h, r2⟩ := r1.seq e
  refine ⟨a, ys, rfl, h.imp (fun h => s.seq h) (fun h => SqT_mono s h), ?_⟩
  exact k _ (.int es.length) F H (.refl _ _ _) s (by rw [r2.length]; exact .int _) hq
def gIsi (K : PySem.W.Frag) : List D → (D → Prop) → Prop := fun ds q => ∃ d n b, ds = [d, .ty n] ∧ noTy d ∧ PySem.W.kitOne K (tyD d) (.type n) = some b ∧ q (.bl b)
theorem o_isi : OpN K (rIsi K) (gIsi K) := by
  rintro F H xs ds q Q s r ⟨d, n, b, rfl, nt, e, hq⟩ k
  obtain ⟨v, v', rfl, r1, r2⟩ := r.two
  cases r2
  exact ⟨v, .ty n, tyD d, .type n, b, rfl, .ty n, TyX_mono s (r1.tyX nt), e, k _ (.bl b) F H (.refl _ _ _) s (.bl b) hq⟩
def rAbs : List V → Hp → VK → Prop := fun xs H Q => ∃ i, xs = [.int i] ∧ Q (.int (if i < 0 then -i else i)) H
def gAbs : List D → (D → Prop) → Prop := fun ds q => ∃ i, ds = [.int i] ∧ q (.int (if i < 0 then -i else i))
theorem o_abs : OpN K rAbs gAbs := by
  rintro F H xs ds q Q s r ⟨i, rfl, hq⟩ k
  obtain ⟨v, rfl, r1⟩ := r.one
  exact ⟨i, by rw [r1.int_of], k _ _ F H (.refl _ _ _) s (.int _) hq⟩
def gGcd : List D → (D → Prop) → Prop := fun ds q => ∃ i j : Int, ds = [.int i, .int j] ∧ q (.int ((Nat.gcd i.natAbs j.natAbs : Nat) : Int))
theorem o_gcd : OpN K rGcd gGcd := by
  rintro F H xs ds q Q s r ⟨i, j, rfl, hq⟩ k
  obtain ⟨v, v', rfl, r1, r2⟩ := r.two
  exact ⟨i, j, by rw [r1.int_of, r2.int_of], k _ _ F H (.refl _ _ _) s (.int _) hq⟩
def gAll : List D → (D → Prop) → Prop := fun ds q => ∃ (es : List D) (bs : List Bool), (ds = [.lst es] ∨ ds = [.fl es]) ∧ es = bs.map D.bl ∧ q (.bl (bs.all id))
theorem o_all : OpN K (rAll K) gAll := by
  rintro F H xs ds q Q s r ⟨es, bs, e, rfl, hq⟩ k
  rcases e with rfl | rfl
  · obtain ⟨v, rfl, r1⟩ := r.one
    cases r1 with
    | lst h r2 =>
      have := Reps.bls r2
      subst this
      exact ⟨_, bs, rfl, .inl (.inl (s _ _ h)), k _ _ F H (.refl _ _ _) s (.bl _) hq⟩
  · obtain ⟨v, rfl, r1⟩ := r.one
    cases r1 with
    | fl h r2 =>
      have := Reps.bls r2
      subst this
      exact ⟨_, bs, rfl, s.seq h, k _ _ F H (.refl _ _ _) s (.bl _) hq⟩
def rInt1 : List V → Hp → VK → Prop := fun xs H Q => (∃ i, xs = [.int i] ∧ Q (.int i) H) ∨ ∃ k, xs = [.bl k] ∧ Q (.int (if k then 1 else 0)) H
def numD3 : D → Option Int | .int i => some i | .bl k => some (if k then 1 else 0) | _ => none
def gInt1 : List D → (D → Prop) → Prop := fun ds q => ∃ d i, ds = [d] ∧ numD3 d = some i ∧ q (.int i)
theorem o_int1 : OpN K rInt1 gInt1 := by
  rintro F H xs ds q Q s r ⟨d, i, rfl, e, hq⟩ k
  obtain ⟨v, rfl, r1⟩ := r.one
  cases d <;> simp [numD3] at e
  · subst e
    exact .inr ⟨_, by rw [r1.bl_of], k _ _ F H (.refl _ _ _) s (.int _) hq⟩
  · subst e
    exact .inl ⟨_, by rw [r1.int_of], k _ _ F H (.refl _ _ _) s (.int _) hq⟩
def rTupleOf (K : PySem.W.Frag) : List V → Hp → VK → Prop := fun xs H Q => ∃ p ys, xs = [.ref p] ∧ ((SqL K H p ys ∧ ∀ l, H l = none → Q (.ref l) (upd H l (.tup ys))) ∨ (SqT K H p ys ∧ Q (.ref p) H))
def gTupleOf : List D → (D → Prop) → Prop := fun ds q => ∃ d es, ds = [d] ∧ seqD d = some es ∧ q (.tup es)
theorem new_ext {F H : Hp} {p : Addr} {o : HO} (s : Same F H) (h : H p = none) (nt : NT o := by intro ps z; cases z) : Ext [] F H (upd F p o) (upd H p o) ∧ Same (upd F p o) (upd H p o) := by
  refine ⟨Ext.laid s h nt, fun a u e => ?_⟩
  by_cases q : a = p
  · subst q; rw [upd_same] at e ⊢; exact e
  · rw [upd_ne q] at e ⊢; exact s _ _ e
theorem new_none {F H : Hp} {p : Addr} (s : Same F H) (h : H p = none) : F p = none := by
  cases q : F p with
  | none => rfl
  | some u => rw [s _ _ q] at h; cases h
theorem new_same {F H : Hp} {p : Addr} {o : HO} (s : Same F H) (h : H p = none) : Same F (upd F p o) := fun a u e => by
  rw [upd_ne (ne_of_none e (new_none s h))]
  exact e
theorem o_tupleOf : OpN K (rTupleOf K) gTupleOf := by
  rintro F H xs ds q Q s r ⟨d, es, rfl, e, hq⟩ k
  obtain ⟨v, rfl, r1⟩ := r.one
  obtain ⟨a, ys, rfl, h, r2⟩ := r1.seq e
  rcases h with h | h
  · refine ⟨a, ys, rfl, .inl ⟨s.seq h, fun l hl => ?_⟩⟩
    obtain ⟨x1, x2⟩ := new_ext (o := .tup ys) s hl
    exact k _ (.tup es) _ _ x1 x2 (.tup (.inl (.inl upd_same)) (r2.mono (new_same s hl))) hq
  · exact ⟨a, ys, rfl, .inr ⟨SqT_mono s h, k _ (.tup es) F H (.refl _ _ _) s (.tup h r2) hq⟩⟩
def rListOf (K : PySem.W.Frag) : List V → Hp → VK → Prop := fun xs H Q => ∃ p ys, xs = [.ref p] ∧ (SqL K H p ys ∨ SqT K H p ys) ∧ ∀ l, H l = none → Q (.ref l) (upd H l (.lst ys))
def gListOf : List D → (D → Prop) → Prop := fun ds q => ∃ d es, ds = [d] ∧ seqD d = some es ∧ q (.lst es)
theorem o_listOf : OpN K (rListOf K) gListOf := by
  rintro F H xs ds q Q s r ⟨d, es, rfl, e, hq⟩ k
  obtain ⟨v, rfl, r1⟩ := r.one
  obtain ⟨a, ys, rfl, h, r2⟩ := r1.seq e
  refine ⟨a, ys, rfl, h.imp (fun h => s.seq h) (fun h => SqT_mono s h), fun l hl => ?_⟩
  obtain ⟨x1, x2⟩ := new_ext (o := .lst ys) s hl
  exact k _ (.lst es) _ _ x1 x2 (.lst upd_same (r2.mono (new_same s hl))) hq

/-! ### subscripts, displays, slices -/
def gIx : D → D → (D → Prop) → Prop := fun x y q => ∃ es i d, seqD x = some es ∧ y = .int i ∧ atI es i = some d ∧ q d
theorem atI_rep {F : Hp} {xs : List V} {ds : List D} {i : Int} {d : D} (r : Reps K F xs ds) (e : atI ds i = some d) : ∃ v, atI xs i = some v ∧ Rep K F v d := by
  unfold atI at e ⊢
  rw [r.length]
  cases h : ixN ds.length i with
  | none => rw [h] at e; cases e
  | some j =>
    rw [h] at e
    exact r.getD e
theorem o_ix : Op2 K (rIx K) gIx := by
  rintro F H x y d1 d2 q Q s r1 r2 ⟨es, i, d, e, rfl, ei, hq⟩ k
  obtain ⟨a, xs, rfl, h, r3⟩ := r1.seq e
  obtain ⟨v, ev, rv⟩ := atI_rep r3 ei
  have fin : Q v H := k v d F H (.refl _ _ _) s rv hq
  rcases h with h | h
  · exact .inl ⟨a, xs, i, v, rfl, r2.int_of, s.seq h, ev, fin⟩
  · exact .inr (.inl ⟨a, xs, i, v, rfl, r2.int_of, SqT_mono s h, ev, fin⟩)
def wTup (wa : AW) : EW := fun τ q e => wa τ (fun ds τ' => ds.length ≤ 1000 ∧ q (.tup ds) τ') e
theorem de_tup {t : TA} {w : AW} (h : DA K W t w) : DE K W (tTup t) (wTup w) := by
  refine ⟨fun σ H τ F Q q e S hw k x => h.run σ H τ F _ _ e S hw (fun zs ds τ' F' H' t' r' ⟨hl, hq⟩ => ?_) x⟩
  refine ⟨by rw [r'.length]; exact Nat.le_of_lt (small1000 hl), fun p hp => ?_⟩
  obtain ⟨x1, x2⟩ := new_ext (o := .tup zs) t'.ok.sub hp
  exact k _ (.tup ds) τ' _ _ (t'.trans (.small t'.ok x1 x2)) (.tup (.inl (.inl upd_same)) (r'.mono (new_same t'.ok.sub hp))) hq
def wLst (wa : AW) : EW := fun τ q e => wa τ (fun ds τ' => ds.length ≤ 1000 ∧ q (.lst ds) τ') e
theorem de_lst {t : TA} {w : AW} (h : DA K W t w) : DE K W (tLst t) (wLst w) := by
  refine ⟨fun σ H τ F Q q e S hw k x => h.run σ H τ F _ _ e S hw (fun zs ds τ' F' H' t' r' ⟨hl, hq⟩ => ?_) x⟩
  refine ⟨by rw [r'.length]; exact Nat.le_of_lt (small1000 hl), fun p hp => ?_⟩
  obtain ⟨x1, x2⟩ := new_ext (o := .lst zs) t'.ok.sub hp
  exact k _ (.lst ds) τ' _ _ (t'.trans (.small t'.ok x1 x2)) (.lst upd_same (r'.mono (new_same t'.ok.sub hp))) hq
abbrev OW := List Cell → (Option Int → List Cell → Prop) → (Xn → List Cell → Prop) → Prop
structure DO (K : PySem.W.Frag) (W : WX) (t : TO) (w : OW) : Prop where
  run : ∀ σ H τ F Q q e, SOk K F H σ τ → w τ q e → (∀ b τ' F' H', To K F H σ τ F' H' τ' → q b τ' → Q b H') → XTo K W F H σ τ e → t σ H Q
def wNoPart : OW := fun τ q _ => q none τ
def wPart (we : EW) : OW := fun τ q e => we τ (fun d τ' => ∃ i, d = .int i ∧ q (some i) τ') e
theorem do_no : DO K W tNoPart wNoPart := ⟨fun σ H τ F Q q e S hq k _ => k none τ F H (.refl S) hq⟩
theorem do_part {t : TE} {w : EW} (h : DE K W t w) : DO K W (tPart t) (wPart w) := by
  refine ⟨fun σ H τ F Q q e S hw k x => h.run σ H τ F _ _ e S hw (fun z d τ' F' H' t' r ⟨i, ei, hq⟩ => ?_) x⟩
  subst ei
  exact ⟨i, r.int_of, k _ τ' F' H' t' hq⟩
def cutDs {α : Type} (xs : List α) (lo hi : Option Int) : List α := (xs.drop (HT.sIx xs.length 0 lo)).take (HT.sIx xs.length xs.length hi - HT.sIx xs.length 0 lo)
theorem cut_rep {F : Hp} {xs : List V} {ds : List D} {lo hi : Option Int} (r : Reps K F xs ds) : Reps K F (cutV xs lo hi) (cutDs ds lo hi) := by
  unfold cutV cutDs
  rw [r.length]
  exact (r.drop _).take _
/-- a slice of a tuple (the whole of it is the tuple itself) or of a list -/
def rSlA (K : PySem.W.Frag) : V → Option Int → Option Int → Hp → VK → Prop := fun x lo hi H Q => rSlT K x lo hi H Q ∨ rSlL K x lo hi H Q
def wSlT (we : EW) (wl wh : OW) : EW := fun τ q e => we τ (fun d τ1 => wl τ1 (fun lo τ2 => wh τ2 (fun hi τ3 => ∃ es, d = .tup es ∧ ¬ (HT.sIx es.length 0 lo = 0 ∧ HT.sIx es.length es.length hi = es.length) ∧ q (.tup (cutDs es lo hi)) τ3) e) e) e
theorem de_slT {t : TE} {tl th : TO} {w : EW} {wl wh : OW} (h : DE K W t w) (hl : DO K W tl wl) (hh : DO K W th wh) : DE K W (tSl (rSlT K) t tl th) (wSlT w wl wh) := by
  refine ⟨fun σ H τ F Q q e S hw k x => h.run σ H τ F _ _ e S hw (fun z d τ1 F1 H1 t1 r1 h1 => ?_) x⟩
  refine hl.run σ H1 τ1 F1 _ _ e t1.ok h1 (fun lo τ2 F2 H2 t2 h2 => ?_) (x.of t1)
  refine hh.run σ H2 τ2 F2 _ _ e t2.ok h2 (fun hi τ3 F3 H3 t3 h3 => ?_) (x.of (t1.trans t2))
  obtain ⟨es, rfl, hn, hq⟩ := h3
  have r3 := (r1.mono t2.ext.f).mono t3.ext.f
  cases r3 with
  | @tup a xs _ hs r =>
    refine ⟨a, xs, rfl, SqT_mono t3.ok.sub hs, by rw [r.length]; exact hn, fun p hp => ?_⟩
    obtain ⟨x1, x2⟩ := new_ext (o := .tup (cutV xs lo hi)) t3.ok.sub hp
    exact k _ (.tup (cutDs es lo hi)) τ3 _ _ (((t1.trans t2).trans t3).trans (.small t3.ok x1 x2)) (.tup (.inl (.inl upd_same)) ((cut_rep r).mono (new_same t3.ok.sub hp))) hq
def wSlL (we : EW) (wl wh : OW) : EW := fun τ q e => we τ (fun d τ1 => wl τ1 (fun lo τ2 => wh τ2 (fun hi τ3 => ∃ es, (d = .lst es ∨ d = .fl es) ∧ q (.lst (cutDs es lo hi)) τ3) e) e) e
theorem de_slL {t : TE} {tl th : TO} {w : EW} {wl wh : OW} (h : DE K W t w) (hl : DO K W tl wl) (hh : DO K W th wh) : DE K W (tSl (rSlL K) t tl th) (wSlL w wl wh) := by
  refine ⟨fun σ H τ F Q q e S hw k x => h.run σ H τ F _ _ e S hw (fun z d τ1 F1 H1 t1 r1 h1 => ?_) x⟩
  refine hl.run σ H1 τ1 F1 _ _ e t1.ok h1 (fun lo τ2 F2 H2 t2 h2 => ?_) (x.of t1)
  refine hh.run σ H2 τ2 F2 _ _ e t2.ok h2 (fun hi τ3 F3 H3 t3 h3 => ?_) (x.of (t1.trans t2))
  obtain ⟨es, ed, hq⟩ := h3
  have r3 := (r1.mono t2.ext.f).mono t3.ext.f
  have : ∃ a xs, z = .ref a ∧ SqL K F3 a xs ∧ Reps K F3 xs es := by
    rcases ed with rfl | rfl
    · cases r3 with
      | lst h r => exact ⟨_, _, rfl, .inl (.inl h), r⟩
    · cases r3 with
      | fl h r => exact ⟨_, _, rfl, h, r⟩
  obtain ⟨a, xs, rfl, hs, r⟩ := this
  refine ⟨a, xs, rfl, t3.ok.sub.seq hs, fun p hp => ?_⟩
  obtain ⟨x1, x2⟩ := new_ext (o := .lst (cutV xs lo hi)) t3.ok.sub hp
  exact k _ (.lst (cutDs es lo hi)) τ3 _ _ (((t1.trans t2).trans t3).trans (.small t3.ok x1 x2)) (.lst upd_same ((cut_rep r).mono (new_same t3.ok.sub hp))) hq
/-- t + u -/
def gCatT : D → D → (D → Prop) → Prop := fun x y q => ∃ as bs, x = .tup as ∧ y = .tup bs ∧ as ≠ [] ∧ as.length + bs.length ≤ 1000 ∧ q (.tup (as ++ bs))
/-- xs + ys -/
def gCat : D → D → (D → Prop) → Prop := fun x y q => ∃ as bs, x = .lst as ∧ y = .lst bs ∧ as.length + bs.length ≤ 1000 ∧ q (.lst (as ++ bs))
theorem o_cat : Op2 K rCat gCat := by
  rintro F H x y d1 d2 q Q s r1 r2 ⟨as, bs, rfl, rfl, hl, hq⟩ k
  cases r1 with
  | @lst a xs _ h1 r1 =>
    cases r2 with
    | @lst b ys _ h2 r2 =>
      refine ⟨a, b, xs, ys, rfl, rfl, s _ _ h1, s _ _ h2, by rw [r1.length, r2.length]; exact Nat.le_of_lt (small1000 hl), fun p hp => ?_⟩
      obtain ⟨x1, x2⟩ := new_ext (o := .lst (xs ++ ys)) s hp
      exact k _ (.lst (as ++ bs)) _ _ x1 x2 (.lst upd_same ((r1.append r2).mono (new_same s hp))) hq
end
end L3

/-! ## what is walked, targets, comprehensions -/
namespace L3
open PySem PySem.Spec PyProof.Rows L2
variable [TB : TabT]

/-- a list or a tuple that is walked -/
def iSeq (K : PySem.W.Frag) (tl : TE) : TI := fun σ H R => tl σ H fun x H1 => ∃ a, x = .ref a ∧ (((∃ xs, SqL K H1 a xs) ∧ R (Itl K a) H1) ∨ ((∃ xs, SqT K H1 a xs) ∧ R (Itt K a) H1))
theorem pi_seq {X : Cx} {tg l : Expr} {tl : TE} (hl : PE X l tl) : PI X tg l (iSeq X.K tl) := by
  refine ⟨fun pins st σ H R J hh => ?_⟩
  refine thn (hl.run pins st σ H _ J hh) fun val st1 ⟨y, G, J1, rel, way⟩ => ?_
  obtain ⟨adr, hy, way⟩ := way
  subst hy
  cases rel
  have kept : ∀ ob : Obj, Inv X pins σ G { st1 with heap := st1.heap.push ob } := fun ob => J1.kept (t' := st1.toks) fun c u q => Heap.get?_push_of_some _ q
  have fresh : ∀ c ∈ [st1.heap.objs.size], FpOk X pins G c := fun c hc => by
    obtain rfl : c = st1.heap.objs.size := by simpa using hc
    exact J1.fpOk (Nat.le_refl _) (J1.hok.fresh (Nat.le_refl _))
  rcases way with ⟨⟨ys, hq⟩, q⟩ | ⟨⟨ys, hq⟩, q⟩
  · obtain ⟨its, rv, at_, _⟩ := J1.list hq
    exact wpAny_pyIter_list at_.isList ⟨st1.heap.objs.size, [st1.heap.objs.size], _, _, G, rfl, kept _, turn_list adr _, ⟨_, Heap.get?_push_size _ rfl, rfl, rfl⟩, fresh, q⟩
  · obtain ⟨its, rv, at_, _⟩ := J1.tuple hq
    exact wpAny_pyIter_tuple at_ ⟨st1.heap.objs.size, [st1.heap.objs.size], _, _, G, rfl, kept _, turn_tuple adr _, ⟨_, Heap.get?_push_size _ rfl, rfl, rfl⟩, fresh, q⟩

structure ItOk (K : PySem.W.Frag) (F : Hp) (J : It) (ds : List D) : Prop where
  go : ∀ i F2 H, Same F F2 → Same F2 H → i < ds.length → J.go i H
  stop : ∀ F2 H, Same F F2 → Same F2 H → J.stop ds.length H
  yld : ∀ i F2 H x H', Same F F2 → Same F2 H → i < ds.length → J.yld i H x H' → ∃ d F3, ds[i]? = some d ∧ Ext [] F2 H F3 H' ∧ Same F3 H' ∧ Rep K F3 x d
abbrev IW := List Cell → (List D → List Cell → Prop) → (Xn → List Cell → Prop) → Prop
structure DI (K : PySem.W.Frag) (W : WX) (t : TI) (w : IW) : Prop where
  run : ∀ σ H τ F R q e, SOk K F H σ τ → w τ q e → (∀ J ds τ' F' H', To K F H σ τ F' H' τ' → ItOk K F' J ds → q ds τ' → R J H') → XTo K W F H σ τ e → t σ H R
section
variable {K : PySem.W.Frag} {W : WX}
theorem it_list {F : Hp} {a : Addr} {xs : List V} {ds : List D} (h : SqL K F a xs) (r : Reps K F xs ds) : ItOk K F (Itl K a) ds := by
  refine ⟨fun i F2 H s s2 hi => ?_, fun F2 H s s2 => ⟨xs, s2.seq (s.seq h), by rw [r.length]; exact Nat.le_refl _⟩, fun i F2 H x H' s s2 hi y => ?_⟩
  · rw [← r.length] at hi
    exact ⟨xs, xs[i], s2.seq (s.seq h), List.getElem?_eq_getElem hi⟩
  · obtain ⟨rfl, e⟩ := y
    obtain ⟨d, e1, e2⟩ := (r.mono s).get (e xs (s2.seq (s.seq h)))
    exact ⟨d, F2, e1, .refl _ _ _, s2, e2⟩
theorem it_tup {F : Hp} {a : Addr} {xs : List V} {ds : List D} (h : SqT K F a xs) (r : Reps K F xs ds) : ItOk K F (Itt K a) ds := by
  refine ⟨fun i F2 H s s2 hi => ?_, fun F2 H s s2 => ⟨xs, SqT_mono s2 (SqT_mono s h), by rw [r.length]; exact Nat.le_refl _⟩, fun i F2 H x H' s s2 hi y => ?_⟩
  · rw [← r.length] at hi
    exact ⟨xs, xs[i], SqT_mono s2 (SqT_mono s h), List.getElem?_eq_getElem hi⟩
  · obtain ⟨rfl, e⟩ := y
    obtain ⟨d, e1, e2⟩ := (r.mono s).get (e xs (SqT_mono s2 (SqT_mono s h)))
    exact ⟨d, F2, e1, .refl _ _ _, s2, e2⟩
def rangeD (lo : Int) (n : Nat) : List D := (List.range n).map fun i => .int (lo + (i : Nat))
theorem rangeD_length {lo : Int} {n : Nat} : (rangeD lo n).length = n := by unfold rangeD; rw [List.length_map, List.length_range]
theorem rangeD_get {lo : Int} {n i : Nat} (h : i < n) : (rangeD lo n)[i]? = some (.int (lo + (i : Nat))) := by
  unfold rangeD
  rw [List.getElem?_map, List.getElem?_range h]
  rfl
theorem it_range {F : Hp} {lo : Int} {n : Nat} : ItOk K F (Itr lo n) (rangeD lo n) := by
  refine ⟨fun i F2 H s s2 hi => ?_, fun F2 H s s2 => ?_, fun i F2 H x H' s s2 hi y => ?_⟩
  · rw [rangeD_length] at hi; exact hi
  · rw [rangeD_length]; exact Nat.le_refl n
  · rw [rangeD_length] at hi
    obtain ⟨rfl, rfl⟩ := y
    exact ⟨_, F2, rangeD_get hi, .refl _ _ _, s2, .int _⟩
def wSeq (we : EW) : IW := fun τ q e => we τ (fun d τ' => ∃ es, seqD d = some es ∧ q es τ') e
theorem di_seq {t : TE} {w : EW} (h : DE K W t w) : DI K W (iSeq K t) (wSeq w) := by
  refine ⟨fun σ H τ F R q e S hw k x => h.run σ H τ F _ _ e S hw (fun v d τ' F' H' t' r ⟨es, ee, hq⟩ => ?_) x⟩
  obtain ⟨a, xs, rfl, hs, r2⟩ := r.seq ee
  rcases hs with hs | hs
  · exact ⟨a, rfl, .inl ⟨⟨xs, t'.ok.sub.seq hs⟩, k _ es τ' F' H' t' (it_list hs r2) hq⟩⟩
  · exact ⟨a, rfl, .inr ⟨⟨xs, SqT_mono t'.ok.sub hs⟩, k _ es τ' F' H' t' (it_tup hs r2) hq⟩⟩
def wRng1 (wa : AW) : IW := fun τ q e => wa τ (fun ds τ' => ∃ j : Int, ds = [.int j] ∧ -(2 ^ 62) ≤ j ∧ j < 2 ^ 62 ∧ q (rangeD 0 j.toNat) τ') e
theorem di_rng1 {t : TA} {w : AW} (h : DA K W t w) : DI K W (iRng1 t) (wRng1 w) := by
  refine ⟨fun σ H τ F R q e S hw k x => h.run σ H τ F _ _ e S hw (fun vs ds τ' F' H' t' r ⟨j, ej, h1, h2, hq⟩ => ?_) x⟩
  subst ej
  obtain ⟨v, rfl, r1⟩ := r.one
  exact ⟨j, by rw [r1.int_of], h1, h2, k _ _ τ' F' H' t' it_range hq⟩
def wRng2 (wa : AW) : IW := fun τ q e => wa τ (fun ds τ' => ∃ i j : Int, ds = [.int i, .int j] ∧ (-(2 ^ 62) ≤ i ∧ i < 2 ^ 62 ∧ -(2 ^ 62) ≤ j ∧ j < 2 ^ 62) ∧ q (rangeD i (j - i).toNat) τ') e
theorem di_rng2 {t : TA} {w : AW} (h : DA K W t w) : DI K W (iRng2 t) (wRng2 w) := by
  refine ⟨fun σ H τ F R q e S hw k x => h.run σ H τ F _ _ e S hw (fun vs ds τ' F' H' t' r ⟨i, j, ej, h1, hq⟩ => ?_) x⟩
  subst ej
  obtain ⟨v, v', rfl, r1, r2⟩ := r.two
  exact ⟨i, j, by rw [r1.int_of, r2.int_of], h1, k _ _ τ' F' H' t' it_range hq⟩
def zipD (xs ys : List D) : List D := List.zipWith (fun x y => .tup [x, y]) xs ys
theorem zip_get {xs ys : List D} {i : Nat} (h : i < (zipD xs ys).length) : ∃ x y, xs[i]? = some x ∧ ys[i]? = some y ∧ (zipD xs ys)[i]? = some (.tup [x, y]) := by
  have h' : i < min xs.length ys.length := by unfold zipD at h; rw [List.length_zipWith] at h; exact h
  have h1 : i < xs.length := by omega
  have h2 : i < ys.length := by omega
  refine ⟨xs[i], ys[i], List.getElem?_eq_getElem h1, List.getElem?_eq_getElem h2, ?_⟩
  unfold zipD
  rw [List.getElem?_zipWith, List.getElem?_eq_getElem h1, List.getElem?_eq_getElem h2]
theorem same_upd {H : Hp} {p : Addr} {o : HO} (h : H p = none) : Same H (upd H p o) := fun b x e => by
  rw [upd_ne (ne_of_none e h)]
  exact e
theorem it_zip {F : Hp} {J : It} {xs ys : List V} {ds es : List D} (r : Reps K F xs ds) (r' : Reps K F ys es) (hgo : ∀ i H x y, Same F H → xs[i]? = some x → ys[i]? = some y → J.go i H)
    (hst : ∀ i H, Same F H → (xs.length ≤ i ∨ ys.length ≤ i) → J.stop i H)
    (hy : ∀ i H v H', Same F H → J.yld i H v H' → ∃ T x y, v = .ref T ∧ H T = none ∧ H' = upd H T (.tup [x, y]) ∧ xs[i]? = some x ∧ ys[i]? = some y) : ItOk K F J (zipD ds es) := by
  refine ⟨fun i F2 H s s2 hi => ?_, fun F2 H s s2 => ?_, fun i F2 H x H' s s2 hi y => ?_⟩
  · obtain ⟨x, y, e1, e2, _⟩ := zip_get hi
    obtain ⟨v, h1, _⟩ := r.getD e1
    obtain ⟨u, h2, _⟩ := r'.getD e2
    exact hgo i H v u (s.trans s2) h1 h2
  · refine hst _ H (s.trans s2) ?_
    unfold zipD
    rw [List.length_zipWith, r.length, r'.length]
    omega
  · obtain ⟨T, u, v, rfl, hT, rfl, e1, e2⟩ := hy i H x H' (s.trans s2) y
    obtain ⟨a, b, f1, f2, f3⟩ := zip_get hi
    obtain ⟨a', g1, g2⟩ := (r.mono s).get e1
    obtain ⟨b', g3, g4⟩ := (r'.mono s).get e2
    rw [f1] at g1; cases g1
    rw [f2] at g3; cases g3
    obtain ⟨x1, x2⟩ := new_ext (o := .tup [u, v]) s2 hT
    have sm := new_same (o := .tup [u, v]) s2 hT
    exact ⟨_, _, f3, x1, x2, .tup (.inl (.inl upd_same)) (.cons (g2.mono sm) (.cons (g4.mono sm) .nil))⟩
def wZip (wa : AW) : IW := fun τ q e => wa τ (fun ds τ' => ∃ xs ys, (ds = [.tup xs, .tup ys] ∨ ds = [.lst xs, .lst ys] ∨ ds = [.fl xs, .lst ys] ∨ ds = [.lst xs, .fl ys]) ∧ q (zipD xs ys) τ') e
theorem SqT.inj' {F H : Hp} {a : Addr} {xs ys : List V} (h : SqT K F a xs) : True := trivial
theorem di_zip {t : TA} {w : AW} (h : DA K W t w) : DI K W (RZ.iZipA K t) (wZip w) := by
  refine ⟨fun σ H τ F R q e S hw k x => h.run σ H τ F _ _ e S hw (fun vs ds τ' F' H' t' r ⟨xs, ys, ej, hq⟩ => ?_) x⟩
  have lst : ∀ {d1 d2 : D}, ds = [d1, d2] → seqD d1 = some xs → seqD d2 = some ys → (∀ z : List D, d1 ≠ .tup z) → (∀ z : List D, d2 ≠ .tup z) →
      ∃ a b us vs', vs = [.ref a, .ref b] ∧ SqL K F' a us ∧ SqL K F' b vs' ∧ Reps K F' us xs ∧ Reps K F' vs' ys := by
    rintro d1 d2 rfl e1 e2 n1 n2
    obtain ⟨v, v', rfl, r1, r2⟩ := r.two
    have key : ∀ {v : V} {d : D} {zs : List D}, Rep K F' v d → seqD d = some zs → (∀ z : List D, d ≠ .tup z) → ∃ a us, v = .ref a ∧ SqL K F' a us ∧ Reps K F' us zs := by
      intro v d zs r e n
      cases r with
      | tup h r => exact absurd rfl (n _)
      | lst h r => cases e; exact ⟨_, _, rfl, .inl (.inl h), r⟩
      | fl h r => cases e; exact ⟨_, _, rfl, h, r⟩
      | _ => cases e
    obtain ⟨a, us, rfl, h1, h2⟩ := key r1 e1 n1
    obtain ⟨b, ws, rfl, h3, h4⟩ := key r2 e2 n2
    exact ⟨a, b, us, ws, rfl, h1, h3, h2, h4⟩
  have finL : (∃ a b us vs', vs = [.ref a, .ref b] ∧ SqL K F' a us ∧ SqL K F' b vs' ∧ Reps K F' us xs ∧ Reps K F' vs' ys) → RZ.iZipA K (fun _ H Q => Q vs H) σ H' R := by
    rintro ⟨a, b, us, ws, rfl, h1, h3, h2, h4⟩
    refine ⟨a, b, us, ws, rfl, .inl ⟨t'.ok.sub.seq h1, t'.ok.sub.seq h3, k _ _ τ' F' H' t' (it_zip h2 h4 ?_ ?_ ?_) hq⟩⟩
    · exact fun i H x y s e1 e2 => ⟨us, ws, x, y, s.seq h1, s.seq h3, e1, e2⟩
    · exact fun i H s e => ⟨us, ws, s.seq h1, s.seq h3, e⟩
    · rintro i H v H' s ⟨T, x, y, rfl, hT, rfl, e1, e2⟩
      exact ⟨T, x, y, rfl, hT, rfl, e1 _ (s.seq h1), e2 _ (s.seq h3)⟩
  rcases ej with rfl | rfl | rfl | rfl
  · obtain ⟨v, v', rfl, r1, r2⟩ := r.two
    cases r1 with
    | @tup a us _ h1 h2 =>
      cases r2 with
      | @tup b ws _ h3 h4 =>
        refine ⟨a, b, us, ws, rfl, .inr ⟨SqT_mono t'.ok.sub h1, SqT_mono t'.ok.sub h3, k _ _ τ' F' H' t' (it_zip h2 h4 ?_ ?_ ?_) hq⟩⟩
        · exact fun i H x y s e1 e2 => ⟨us, ws, x, y, SqT_mono s h1, SqT_mono s h3, e1, e2⟩
        · exact fun i H s e => ⟨us, ws, SqT_mono s h1, SqT_mono s h3, e⟩
        · rintro i H v H' s ⟨T, x, y, rfl, hT, rfl, e1, e2⟩
          exact ⟨T, x, y, rfl, hT, rfl, e1 _ (SqT_mono s h1), e2 _ (SqT_mono s h3)⟩
  · exact finL (lst rfl rfl rfl (fun z e => by cases e) (fun z e => by cases e))
  · exact finL (lst rfl rfl rfl (fun z e => by cases e) (fun z e => by cases e))
  · exact finL (lst rfl rfl rfl (fun z e => by cases e) (fun z e => by cases e))

/-! ### targets -/
abbrev GW := D → List Cell → (List Cell → Prop) → Prop
abbrev GsW := List D → List Cell → (List Cell → Prop) → Prop
structure DG (K : PySem.W.Frag) (vs : List Nat) (g : TG) (w : GW) : Prop where
  run : ∀ σ H τ F v d Q q, SOk K F H σ τ → Rep K F v d → w d τ q → (∀ σ' τ', SOk K F H σ' τ' → (∀ p, IsOwn τ' p → IsOwn τ p) → (∀ j, j ∉ vs → σ'[j]? = σ[j]?) → σ'.length = σ.length → q τ' → Q σ' H) → g v σ H Q
structure DGs (K : PySem.W.Frag) (vs : List Nat) (g : TGs) (w : GsW) : Prop where
  run : ∀ σ H τ F us ds Q q, SOk K F H σ τ → Reps K F us ds → w ds τ q → (∀ σ' τ', SOk K F H σ' τ' → (∀ p, IsOwn τ' p → IsOwn τ p) → (∀ j, j ∉ vs → σ'[j]? = σ[j]?) → σ'.length = σ.length → q τ' → Q σ' H) → g us σ H Q
theorem own_set {τ : List Cell} {i : Nat} {c : Cell} (hc : ∀ p ds, c ≠ .own p ds) {j : Nat} {p : Addr} {ds : Cont} (h : (τ.set i c)[j]? = some (.own p ds)) : τ[j]? = some (.own p ds) := by
  by_cases e : i = j
  · subst e
    by_cases hl : i < τ.length
    · rw [List.getElem?_set_self hl] at h
      exact absurd (Option.some.inj h) (hc p ds)
    · rw [List.set_eq_of_length_le (Nat.le_of_not_lt hl)] at h
      exact h
  · rw [List.getElem?_set_ne e] at h
    exact h
theorem SOk.set {F H : Hp} {σ : L2.St} {τ : List Cell} {i : Nat} {v : V} {d : D} (S : SOk K F H σ τ) (r : Rep K F v d) : SOk K F H (σ.set i (some v)) (τ.set i (.dat d)) := by
  have nc : ∀ p ds, Cell.dat d ≠ .own p ds := fun p ds z => nomatch z
  refine ⟨S.tabs, S.sub, by rw [List.length_set, List.length_set, S.len], fun j s c h1 h2 => ?_, fun j p ds h => S.own j p ds (own_set nc h), fun j k p ds es h1 h2 => S.inj j k p ds es (own_set nc h1) (own_set nc h2)⟩
  by_cases e : i = j
  · subst e
    by_cases hl : i < σ.length
    · rw [List.getElem?_set_self hl] at h1
      rw [List.getElem?_set_self (by rw [← S.len]; exact hl)] at h2
      cases h1; cases h2
      exact ⟨v, rfl, r⟩
    · rw [List.getElem?_eq_none (by rw [List.length_set]; exact Nat.le_of_not_lt hl)] at h1
      cases h1
  · rw [List.getElem?_set_ne e] at h1 h2
    exact S.slot j s c h1 h2
def wName (i : Nat) : GW := fun d τ q => q (τ.set i (.dat d))
theorem dg_name (i : Nat) : DG K [i] (gName i) (wName i) := by
  refine ⟨fun σ H τ F v d Q q S r hw k => ?_⟩
  refine k (σ.set i (some v)) (τ.set i (.dat d)) (S.set r) (fun p ⟨j, ds, h⟩ => ⟨j, ds, own_set (c := .dat d) (fun p ds z => nomatch z) h⟩) (fun j hj => ?_) (List.length_set ..) hw
  rw [List.getElem?_set_ne (fun z => hj (by rw [z]; exact List.mem_cons_self ..))]
def wNilT : GsW := fun ds τ q => ds = [] ∧ q τ
def wConsT (w : GW) (u : GsW) : GsW := fun ds τ q => ∃ d r, ds = d :: r ∧ w d τ fun τ' => u r τ' q
theorem dgs_nil : DGs K [] gNil wNilT := by
  refine ⟨fun σ H τ F us ds Q q S r ⟨e, hq⟩ k => ?_⟩
  subst e
  cases r
  exact ⟨rfl, k σ τ S (fun _ h => h) (fun _ _ => rfl) rfl hq⟩
theorem dgs_cons {vs ws : List Nat} {g : TG} {u : TGs} {w : GW} {wu : GsW} (h : DG K vs g w) (h' : DGs K ws u wu) : DGs K (vs ++ ws) (gCons g u) (wConsT w wu) := by
  refine ⟨fun σ H τ F us ds Q q S r hw k => ?_⟩
  obtain ⟨d, rs, rfl, hw⟩ := hw
  cases r with
  | @cons v vs' _ _ r1 r2 =>
    refine ⟨v, vs', rfl, ?_⟩
    refine h.run σ H τ F v d _ _ S r1 hw fun σ1 τ1 S1 o1 a1 l1 hw1 => ?_
    refine h'.run σ1 H τ1 F vs' rs _ _ S1 r2 hw1 fun σ2 τ2 S2 o2 a2 l2 hq => ?_
    refine k σ2 τ2 S2 (fun p hp => o1 p (o2 p hp)) (fun j hj => ?_) (l2.trans l1) hq
    rw [List.mem_append, not_or] at hj
    exact (a2 j hj.2).trans (a1 j hj.1)
def wTupT (n : Nat) (w : GsW) : GW := fun d τ q => ∃ ds, d = .tup ds ∧ ds.length = n ∧ w ds τ q
theorem dg_tup {vs : List Nat} {n : Nat} {g : TGs} {w : GsW} (h : DGs K vs g w) : DG K vs (gTup K n g) (wTupT n w) := by
  refine ⟨fun σ H τ F v d Q q S r hw k => ?_⟩
  obtain ⟨ds, rfl, hn, hw⟩ := hw
  cases r with
  | @tup a xs _ hs r =>
    exact ⟨a, xs, rfl, SqT_mono S.sub hs, by rw [r.length]; exact hn, h.run σ H τ F xs ds _ _ S r hw k⟩

/-! ### comprehensions -/
theorem wipe_get : ∀ (vs : List Nat) (σ : L2.St) (j : Nat), (wipe σ vs)[j]? = if j ∈ vs ∧ j < σ.length then some none else σ[j]?
  | [], σ, j => by unfold wipe; simp
  | v :: vs, σ, j => by
    unfold wipe
    by_cases e : v = j
    · subst e
      by_cases hl : v < σ.length
      · rw [List.getElem?_set_self (by rw [wipe_length]; exact hl), if_pos ⟨List.mem_cons_self .., hl⟩]
      · rw [List.getElem?_eq_none (by rw [List.length_set, wipe_length]; exact Nat.le_of_not_lt hl), if_neg (fun z => hl z.2), List.getElem?_eq_none (Nat.le_of_not_lt hl)]
    · rw [List.getElem?_set_ne e, wipe_get vs σ j]
      have : (j ∈ v :: vs) ↔ j ∈ vs := by
        rw [List.mem_cons]
        exact ⟨fun h => h.elim (fun z => absurd z.symm e) id, .inr⟩
      simp only [this]
def wipeD (τ : List Cell) : List Nat → List Cell
  | [] => τ
  | v :: vs => (wipeD τ vs).set v .any
theorem wipeD_length (τ : List Cell) : ∀ vs : List Nat, (wipeD τ vs).length = τ.length
  | [] => rfl
  | v :: vs => by unfold wipeD; rw [List.length_set, wipeD_length τ vs]
theorem wipeD_get : ∀ (vs : List Nat) (τ : List Cell) (j : Nat), (wipeD τ vs)[j]? = if j ∈ vs ∧ j < τ.length then some .any else τ[j]?
  | [], σ, j => by unfold wipeD; simp
  | v :: vs, σ, j => by
    unfold wipeD
    by_cases e : v = j
    · subst e
      by_cases hl : v < σ.length
      · rw [List.getElem?_set_self (by rw [wipeD_length]; exact hl), if_pos ⟨List.mem_cons_self .., hl⟩]
      · rw [List.getElem?_eq_none (by rw [List.length_set, wipeD_length]; exact Nat.le_of_not_lt hl), if_neg (fun z => hl z.2), List.getElem?_eq_none (Nat.le_of_not_lt hl)]
    · rw [List.getElem?_set_ne e, wipeD_get vs σ j]
      have : (j ∈ v :: vs) ↔ j ∈ vs := by
        rw [List.mem_cons]
        exact ⟨fun h => h.elim (fun z => absurd z.symm e) id, .inr⟩
      simp only [this]
theorem wipeD_own {τ : List Cell} {vs : List Nat} {j : Nat} {p : Addr} {ds : Cont} (h : (wipeD τ vs)[j]? = some (.own p ds)) : τ[j]? = some (.own p ds) ∧ j ∉ vs := by
  rw [wipeD_get] at h
  split at h
  · cases h
  · rename_i n
    refine ⟨h, fun hj => n ⟨hj, (List.getElem?_eq_some_iff.mp h).1⟩⟩
/-- slots are forgotten; the values there may be any -/
theorem SOk.wiped {F H : Hp} {σ σ' : L2.St} {τ : List Cell} {vs : List Nat} (S : SOk K F H σ τ) (hl : σ'.length = σ.length) (h : ∀ j, j ∉ vs → σ'[j]? = σ[j]?) : SOk K F H σ' (wipeD τ vs) := by
  refine ⟨S.tabs, S.sub, by rw [hl, S.len, wipeD_length], fun j s c h1 h2 => ?_, fun j p ds e => S.own j p ds (wipeD_own e).1, fun j k p ds es e1 e2 => S.inj j k p ds es (wipeD_own e1).1 (wipeD_own e2).1⟩
  rw [wipeD_get] at h2
  split at h2
  · cases h2; exact trivial
  · rename_i n
    have hj : j ∉ vs := fun hj => n ⟨hj, (List.getElem?_eq_some_iff.mp h2).1⟩
    rw [h j hj] at h1
    exact S.slot j s c h1 h2
theorem wipe_ne {σ : L2.St} {vs : List Nat} {j : Nat} (h : j ∉ vs) : (wipe σ vs)[j]? = σ[j]? := by
  rw [wipe_get, if_neg (fun z => h z.1)]
theorem wipe_eq {σ σ2 : L2.St} {vs ws : List Nat} (hs : ∀ j ∈ ws, j ∈ vs) (hl : σ2.length = (wipe σ vs).length) (h : ∀ j, j ∉ ws → σ2[j]? = (wipe σ vs)[j]?) : wipe σ2 vs = wipe σ vs := by
  apply List.ext_getElem?
  intro j
  rw [wipe_get vs σ2, wipe_get vs σ]
  rw [wipe_length] at hl
  rw [hl]
  by_cases hj : j ∈ vs ∧ j < σ.length
  · rw [if_pos hj, if_pos hj]
  · rw [if_neg hj, if_neg hj]
    by_cases hw : j ∈ ws
    · have hn : ¬ j < σ.length := fun z => hj ⟨hs j hw, z⟩
      rw [List.getElem?_eq_none (by omega), List.getElem?_eq_none (by omega)]
    · rw [h j hw, wipe_get, if_neg hj]
/-- a thing that is no data and not own is changed -/
theorem To.touch {F H F1 H1 : Hp} {σ : L2.St} {τ τ1 : List Cell} {p : Addr} {o : HO} (t : To K F H σ τ F1 H1 τ1) (h : Fr H p) (h1 : F1 p = none) (n : ¬ IsOwn τ1 p) (ht : LamX.Tabs TB.T H1 → LamX.Tabs TB.T (upd H1 p o)) : To K F H σ τ F1 (upd H1 p o) τ1 := by
  have nt1 : LamX.Tabs TB.T H1 → LamX.Tabs TB.T (upd H1 p o) := ht
  refine ⟨⟨t.ext.f, t.ext.new, fun a u e z nt => ?_, fun a e => ?_, fun z => ⟨nt1 (t.ext.tabs z).1, (t.ext.tabs z).2⟩⟩, t.grow, ⟨⟨nt1 t.ok.tabs.1, t.ok.tabs.2⟩, fun a u e => ?_, t.ok.len, t.ok.slot, fun i q ds e => ?_, t.ok.inj⟩⟩
  · rw [upd_ne (fr_ne e nt h)]
    exact t.ext.keep a u e z nt
  · by_cases q : a = p
    · subst q; exact h
    · exact t.ext.there a fun o' e' => e o' (by rw [upd_ne q]; exact e')
  · rw [upd_ne (ne_of_none e h1)]
    exact t.ok.sub a u e
  · obtain ⟨f1, vs, f2, f3⟩ := t.ok.own i q ds e
    refine ⟨f1, vs, ?_, f3⟩
    rw [upd_ne (fun z => n ⟨i, ds, by rw [← z]; exact e⟩)]
    exact f2
/-- .. becomes data -/
theorem To.freeze {F H F1 H1 : Hp} {σ : L2.St} {τ τ1 : List Cell} {p : Addr} {o : HO} (t : To K F H σ τ F1 H1 τ1) (h : Fr H p) (h1 : F1 p = none) (h2 : H1 p = some o) (n : ¬ IsOwn τ1 p) (nt : NT o := by intro ps z; cases z) : To K F H σ τ (upd F1 p o) H1 τ1 := by
  have s : Same F1 (upd F1 p o) := same_upd h1
  refine ⟨⟨t.ext.f.trans s, fun a u e => ?_, t.ext.keep, t.ext.there, fun z => ⟨(t.ext.tabs z).1, nt_upd nt (t.ext.tabs z).2⟩⟩, t.grow, ⟨⟨t.ok.tabs.1, nt_upd nt t.ok.tabs.2⟩, fun a u e => ?_, t.ok.len, fun i v c e1 e2 => (t.ok.slot i v c e1 e2).mono s, fun i q ds e => ?_, t.ok.inj⟩⟩
  · by_cases q : a = p
    · subst q; exact .inr (.inl h)
    · rw [upd_ne q] at e; exact t.ext.new a u e
  · by_cases q : a = p
    · subst q; rw [upd_same] at e; rw [h2]; exact e
    · rw [upd_ne q] at e; exact t.ok.sub a u e
  · obtain ⟨f1, vs, f2, f3⟩ := t.ok.own i q ds e
    refine ⟨?_, vs, f2, f3.mono s⟩
    rw [upd_ne (fun z => n ⟨i, ds, by rw [← z]; exact e⟩)]
    exact f1
theorem To.at {F H F1 H1 : Hp} {σ σ' : L2.St} {τ τ1 τ2 : List Cell} (t : To K F H σ τ F1 H1 τ1) (S : SOk K F1 H1 σ' τ2) (o : ∀ p, IsOwn τ2 p → IsOwn τ1 p) : To K F H σ' τ F1 H1 τ2 := ⟨t.ext, fun p h => t.grow p (o p h), S⟩
theorem To.not_own {F H F1 H1 : Hp} {σ : L2.St} {τ τ1 : List Cell} (t : To K F H σ τ F1 H1 τ1) {p : Addr} {o : HO} (n : ¬ IsOwn τ p) (h : H p = some o) (nt : NT o := by intro ps z; cases z) : ¬ IsOwn τ1 p := fun z => by
  rcases t.grow p z with z | z
  · exact n z
  · exact z _ h nt
theorem To.not_data {F H F1 H1 : Hp} {σ : L2.St} {τ τ1 : List Cell} (t : To K F H σ τ F1 H1 τ1) {p : Addr} {o : HO} (n : ¬ IsOwn τ p) (h : H p = some o) (hf : F p = none) (nt : NT o := by intro ps z; cases z) : F1 p = none := by
  cases q : F1 p with
  | none => rfl
  | some u =>
    rcases t.ext.new p u q with z | z | z
    · rw [hf] at z; cases z
    · exact (z _ h nt).elim
    · exact absurd z n
def noX : Xn → List Cell → Prop := fun _ _ => False
abbrev W0 : WX := fun _ _ _ _ => False
theorem xto0 {F H : Hp} {σ : L2.St} {τ : List Cell} : XTo K W0 F H σ τ noX := fun _ _ _ _ _ _ _ _ h => h
def wYes : TW := fun τ q _ => q true τ
theorem dt_yes : DT K W tYes wYes := ⟨fun σ H τ F Q q e S hq k _ => k true τ F H (.refl S) hq⟩
def wLc (wI : IW) (wg : GW) (wt : TW) (we : EW) (vs : List Nat) : EW := fun τ q e => wI τ (fun ds τ1 => ds.length ≤ 1000 ∧ ∃ inv : Nat → List D → List Cell → Prop, inv 0 [] (wipeD τ1 vs) ∧
  (∀ i d acc τ2, ds[i]? = some d → inv i acc τ2 → acc.length ≤ i → wg d τ2 fun τ3 => wt τ3 (fun b τ4 => (b = true → we τ4 (fun y τ5 => inv (i + 1) (acc ++ [y]) (wipeD τ5 vs)) noX) ∧ (b = false → inv (i + 1) acc (wipeD τ4 vs))) noX) ∧
  ∀ acc τ2, inv ds.length acc (wipeD τ2 vs) → acc.length ≤ ds.length → q (.lst acc) (wipeD τ2 vs)) e
theorem wipeD_idem {τ : List Cell} {vs : List Nat} : wipeD (wipeD τ vs) vs = wipeD τ vs := by
  apply List.ext_getElem?
  intro j
  rw [wipeD_get, wipeD_length, wipeD_get]
  by_cases h : j ∈ vs ∧ j < τ.length
  · rw [if_pos h, if_pos h]
  · rw [if_neg h, if_neg h]
theorem isOwn_wipe {τ : List Cell} {vs : List Nat} {p : Addr} (h : IsOwn (wipeD τ vs) p) : IsOwn τ p := by
  obtain ⟨i, ds, e⟩ := h
  exact ⟨i, ds, (wipeD_own e).1⟩
/-- the comprehension's turns: D the new list -/
theorem lc_turns {J : It} {g : TG} {tt : TT} {te : TE} {vs ws : List Nat} {wg : GW} {wt : TW} {we : EW} {σ : L2.St} {F1 H1 : Hp} {τ1 : List Cell} {ds : List D} {Qd : Hp → Prop} {Da : Addr} {inv : Nat → List D → List Cell → Prop}
    (hg : DG K ws g wg) (ht : DT K W0 tt wt) (he : DE K W0 te we) (hs : ∀ j ∈ ws, j ∈ vs) (S : SOk K F1 H1 σ τ1) (it : ItOk K F1 J ds) (hD : H1 Da = none) (hn : ds.length ≤ 1000) (h0 : inv 0 [] (wipeD τ1 vs))
    (hst : ∀ i d acc τ2, ds[i]? = some d → inv i acc τ2 → acc.length ≤ i → wg d τ2 fun τ3 => wt τ3 (fun b τ4 => (b = true → we τ4 (fun y τ5 => inv (i + 1) (acc ++ [y]) (wipeD τ5 vs)) noX) ∧ (b = false → inv (i + 1) acc (wipeD τ4 vs))) noX)
    (hd : ∀ accV acc F2 H2 τ2, To K F1 H1 (wipe σ vs) τ1 F2 H2 (wipeD τ2 vs) → F2 Da = none → ¬ IsOwn (wipeD τ2 vs) Da → H2 Da = some (.lst accV) → Reps K F2 accV acc → acc.length ≤ ds.length → inv ds.length acc (wipeD τ2 vs) → Qd H2) :
    ∃ W : Nat → Nat → Hp → Prop, (∃ m, W 0 m (upd H1 Da (.lst []))) ∧ ∀ i m H, W i m H → (J.stop i H ∧ Qd H) ∨ (J.go i H ∧ ∃ Nx : Hp → Prop, (∀ H', Nx H' → ∃ m', m' < m ∧ W (i + 1) m' H') ∧ ∀ x H', J.yld i H x H' → g x (wipe σ vs) H' fun σ2 H2 => wipe σ2 vs = wipe σ vs ∧ tt σ2 H2 fun b H3 =>
    if b = true then te σ2 H3 fun y H4 => ∃ acc, H4 Da = some (.lst acc) ∧ acc.length < sizeLine ∧ Nx (upd H4 Da (.lst (acc ++ [y]))) else Nx H3) := by
  let Inv (i : Nat) (H : Hp) : Prop := ∃ accV acc F2 τ2, To K F1 H1 (wipe σ vs) τ1 F2 H (wipeD τ2 vs) ∧ F2 Da = none ∧ ¬ IsOwn (wipeD τ2 vs) Da ∧ H Da = some (.lst accV) ∧ Reps K F2 accV acc ∧ acc.length ≤ i ∧ inv i acc (wipeD τ2 vs)
  have S1 : SOk K F1 H1 (wipe σ vs) (wipeD τ1 vs) := S.wiped (wipe_length σ vs) fun j hj => wipe_ne hj
  have F1D : F1 Da = none := by
    cases q : F1 Da with
    | none => rfl
    | some u => rw [S.sub _ _ q] at hD; cases hD
  have no1 : ¬ IsOwn τ1 Da := fun ⟨i, es, e⟩ => by
    obtain ⟨_, us, e2, _⟩ := S.own i Da es e
    rw [hD] at e2; cases e2
  have start : Inv 0 (upd H1 Da (.lst [])) := by
    refine ⟨[], [], F1, τ1, To.touch ⟨.refl _ _ _, fun p h => .inl (isOwn_wipe h), S1⟩ (fr_none hD) F1D (fun z => no1 (isOwn_wipe z)) (tabs_new hD), F1D, fun z => no1 (isOwn_wipe z), upd_same, .nil, Nat.le_refl _, h0⟩
  refine ⟨fun i m H => m = ds.length - i ∧ i ≤ ds.length ∧ Inv i H, ⟨_, rfl, Nat.zero_le _, start⟩, ?_⟩
  rintro i m H ⟨rfl, hi, accV, acc, F2, τ2, T, fD, nD, hH, ra, la, hinv⟩
  have s12 : Same F1 F2 := T.ext.f
  by_cases hlt : i < ds.length
  · refine .inr ⟨it.go i F2 H s12 T.ok.sub hlt, Inv (i + 1), fun H' p' => ⟨ds.length - (i + 1), by omega, rfl, hlt, p'⟩, fun x H' y => ?_⟩
    obtain ⟨d, F3, ed, x3, s3, r3⟩ := it.yld i F2 H x H' s12 T.ok.sub hlt y
    have T3 : To K F2 H (wipe σ vs) (wipeD τ2 vs) F3 H' (wipeD τ2 vs) := .small T.ok x3 s3
    refine hg.run _ H' _ F3 x d _ _ T3.ok r3 (hst i d acc _ ed hinv la) fun σ4 τ4 S4 o4 a4 l4 h4 => ?_
    have ew : wipe σ4 vs = wipe σ vs := wipe_eq hs (by rw [l4]) (fun j hj => a4 j hj)
    refine ⟨ew, ?_⟩
    have T4 : To K F2 H σ4 (wipeD τ2 vs) F3 H' τ4 := T3.at S4 o4
    refine ht.run σ4 H' τ4 F3 _ _ noX S4 h4 (fun b τ5 F5 H5 t5 ⟨h5, h6⟩ => ?_) xto0
    have T5 := T4.trans t5
    have back : ∀ {F6 H6 : Hp} {τ6 : List Cell}, To K F2 H σ4 (wipeD τ2 vs) F6 H6 τ6 → To K F1 H1 (wipe σ vs) τ1 F6 H6 (wipeD τ6 vs) := fun {F6 H6 τ6} t =>
      (T.trans t).at (t.ok.wiped (by rw [← ew, wipe_length]) fun j hj => by rw [← ew]; exact wipe_ne hj) fun p h => isOwn_wipe h
    cases b with
    | false =>
      refine iteF ?_
      have n5 := T5.not_own nD hH
      refine ⟨accV, acc, F5, τ5, back T5, T5.not_data nD hH fD, fun z => n5 (isOwn_wipe z), T5.ext.keep Da _ hH nD nt_lst, ra.mono T5.ext.f, Nat.le_succ_of_le la, h6 rfl⟩
    | true =>
      refine iteT ?_
      refine he.run σ4 H5 τ5 F5 _ _ noX t5.ok (h5 rfl) (fun yv yd τ6 F6 H6 t6 r6 h7 => ?_) xto0
      have T6 := T5.trans t6
      have n6 := T6.not_own nD hH
      refine ⟨accV, T6.ext.keep Da _ hH nD nt_lst, by rw [ra.length]; exact Nat.lt_of_le_of_lt la (small1000 (by omega)), ?_⟩
      have nw : ¬ IsOwn (wipeD τ6 vs) Da := fun z => n6 (isOwn_wipe z)
      refine ⟨accV ++ [yv], acc ++ [yd], F6, τ6, (back T6).touch (fr_none hD) (T6.not_data nD hH fD) nw (tabs_lst (T6.ext.keep Da _ hH nD nt_lst)), T6.not_data nD hH fD, nw, upd_same, (ra.mono T6.ext.f).append (.cons r6 .nil), ?_, h7⟩
      rw [List.length_append, List.length_singleton]
      omega
  · have e : i = ds.length := by omega
    subst e
    exact .inl ⟨it.stop F2 H s12 T.ok.sub, hd accV acc F2 H τ2 T fD nD hH ra la hinv⟩
theorem de_lc {wi : TI} {g : TG} {tt : TT} {te : TE} {vs ws : List Nat} {wI : IW} {wg : GW} {wt : TW} {we : EW} (hi : DI K W wi wI) (hg : DG K ws g wg) (ht : DT K W0 tt wt) (he : DE K W0 te we) (hs : ∀ j ∈ ws, j ∈ vs) :
    DE K W (tLc wi g tt te vs) (wLc wI wg wt we vs) := by
  refine ⟨fun σ H τ F Q q e S hw k x => hi.run σ H τ F _ _ e S hw (fun J ds τ1 F1 H1 t1 it ⟨hn, inv, h0, hst, hd⟩ Da hD => ?_) x⟩
  refine lc_turns hg ht he hs t1.ok it hD hn h0 hst fun accV acc F2 H2 τ2 T fD nD hH ra la hinv => ?_
  refine k (.ref Da) (.lst acc) (wipeD τ2 vs) (upd F2 Da (.lst accV)) H2 ?_ (.lst upd_same (ra.mono (same_upd fD))) (hd acc τ2 hinv la)
  have T2 := T.freeze (fr_none hD) fD hH nD
  refine t1.trans (To.at (τ1 := wipeD τ2 vs) T2 ?_ fun p h => h)
  rw [← wipeD_idem]
  exact T2.ok.wiped (by rw [wipe_length]) fun j hj => (wipe_ne hj).symm
end
end L3

/-! ## statements -/
namespace L3
open PySem PySem.Spec PyProof.Rows L2
variable [TB : TabT]
section
variable {K : PySem.W.Frag} {W : WX}
structure Ret (K : PySem.W.Frag) (F H : Hp) (τ : List Cell) (F' H' : Hp) (τ' : List Cell) : Prop where
  ext : Ext τ F H F' H'
  grow : Grow τ H τ'
  sub : Same F' H'
  own : OwnOk K F' H' τ'
theorem To.ret {F H F' H' : Hp} {σ : L2.St} {τ τ' : List Cell} (t : To K F H σ τ F' H' τ') : Ret K F H τ F' H' τ' := ⟨t.ext, t.grow, t.ok.sub, t.ok.own⟩
theorem Ret.pre {F H F1 H1 F2 H2 : Hp} {σ : L2.St} {τ τ1 τ2 : List Cell} (a : To K F H σ τ F1 H1 τ1) (b : Ret K F1 H1 τ1 F2 H2 τ2) : Ret K F H τ F2 H2 τ2 :=
  ⟨a.ext.trans a.grow b.ext, .trans a.ext a.grow b.grow, b.sub, b.own⟩
theorem To.back {F H F1 H1 : Hp} {σ : L2.St} {τ τ1 : List Cell} (t : To K F H σ τ F1 H1 τ1) {p : Addr} (h : Fr H1 p) : Fr H p := t.ext.there p h
structure Out (K : PySem.W.Frag) (W : WX) (F H : Hp) (τ : List Cell) (E : EndsD) (Dn : Ends) : Prop where
  nx : ∀ σ' τ' F' H', To K F H σ' τ F' H' τ' → E.nx τ' → Dn.nx σ' H'
  bk : ∀ σ' τ' F' H', To K F H σ' τ F' H' τ' → E.bk τ' → Dn.bk σ' H'
  ct : ∀ σ' τ' F' H', To K F H σ' τ F' H' τ' → E.ct τ' → Dn.ct σ' H'
  rt : ∀ v d τ' F' H', Ret K F H τ F' H' τ' → Rep K F' v d → E.rt d τ' → Dn.rt v H'
  ex : ∀ σ', XTo K W F H σ' τ E.ex
  rf : ∀ p vs ds τ' F' H', Ret K F H τ F' H' τ' → F' p = none → Fr H p → H' p = some (.lst vs) → Reps K F' vs ds → ¬ IsOwn τ' p → E.rf ds τ' → Dn.rt (.ref p) H'
theorem Out.of {F H F1 H1 : Hp} {σ : L2.St} {τ τ1 : List Cell} {E : EndsD} {Dn : Ends} (o : Out K W F H τ E Dn) (t : To K F H σ τ F1 H1 τ1) : Out K W F1 H1 τ1 E Dn :=
  ⟨fun σ' τ' F' H' u q => o.nx σ' τ' F' H' (t.trans u) q, fun σ' τ' F' H' u q => o.bk σ' τ' F' H' (t.trans u) q, fun σ' τ' F' H' u q => o.ct σ' τ' F' H' (t.trans u) q,
    fun v d τ' F' H' u r q => o.rt v d τ' F' H' (u.pre t) r q, fun σ' x cls dx τ' F' H' u r q => o.ex σ' x cls dx τ' F' H' (t.trans u) r q,
    fun p vs ds τ' F' H' u f h h' r n q => o.rf p vs ds τ' F' H' (u.pre t) f (t.back h) h' r n q⟩
structure DS (K : PySem.W.Frag) (W : WX) (t : TS) (w : SW) : Prop where
  run : ∀ σ H τ F Dn E, SOk K F H σ τ → w E τ → Out K W F H τ E Dn → t Dn σ H
theorem Out.xto {F H : Hp} {σ : L2.St} {τ : List Cell} {E : EndsD} {Dn : Ends} (o : Out K W F H τ E Dn) : XTo K W F H σ τ E.ex := o.ex σ

def wNext : SW := fun E τ => E.nx τ
theorem ds_nil : DS K W tNext wNext := ⟨fun σ H τ F Dn E S h o => o.nx σ τ F H (.refl S) h⟩
def wSq (w u : SW) : SW := fun E τ => w { E with nx := u E } τ
theorem ds_seq {t u : TS} {w v : SW} (h : DS K W t w) (g : DS K W u v) : DS K W (tSeq t u) (wSq w v) := by
  refine ⟨fun σ H τ F Dn E S hw o => h.run σ H τ F { Dn with nx := u Dn } { E with nx := v E } S hw ?_⟩
  exact ⟨fun σ' τ' F' H' t' q => g.run σ' H' τ' F' Dn E t'.ok q (o.of t'), o.bk, o.ct, o.rt, o.ex, o.rf⟩
def wBreak : SW := fun E τ => E.bk τ
theorem ds_break : DS K W tBreak wBreak := ⟨fun σ H τ F Dn E S h o => o.bk σ τ F H (.refl S) h⟩
def wCont : SW := fun E τ => E.ct τ
theorem ds_cont : DS K W tCont wCont := ⟨fun σ H τ F Dn E S h o => o.ct σ τ F H (.refl S) h⟩
def wDrop (we : EW) : SW := fun E τ => we τ (fun _ τ' => E.nx τ') E.ex
theorem ds_drop {t : TE} {w : EW} (h : DE K W t w) : DS K W (tDrop t) (wDrop w) :=
  ⟨fun σ H τ F Dn E S hw o => h.run σ H τ F _ _ E.ex S hw (fun v d τ' F' H' t' r q => o.nx σ τ' F' H' t' q) o.xto⟩
def wRet (we : EW) : SW := fun E τ => we τ E.rt E.ex
theorem ds_ret {t : TE} {w : EW} (h : DE K W t w) : DS K W (tRet t) (wRet w) :=
  ⟨fun σ H τ F Dn E S hw o => h.run σ H τ F _ _ E.ex S hw (fun v d τ' F' H' t' r q => o.rt v d τ' F' H' t'.ret r q) o.xto⟩
def wRetN : SW := fun E τ => E.rt .non τ
theorem ds_retN : DS K W tRetN wRetN := ⟨fun σ H τ F Dn E S h o => o.rt .non .non τ F H (To.refl S).ret .non h⟩
def wIfS (wc : TW) (w u : SW) : SW := fun E τ => wc τ (fun b τ' => (b = true → w E τ') ∧ (b = false → u E τ')) E.ex
theorem ds_if {c : TT} {t u : TS} {wc : TW} {w v : SW} (h : DT K W c wc) (g : DS K W t w) (l : DS K W u v) : DS K W (tIfS c t u) (wIfS wc w v) := by
  refine ⟨fun σ H τ F Dn E S hw o => h.run σ H τ F _ _ E.ex S hw (fun b τ' F' H' t' ⟨h1, h2⟩ => ?_) o.xto⟩
  cases b with
  | true => exact iteT (g.run σ H' τ' F' Dn E t'.ok (h1 rfl) (o.of t'))
  | false => exact iteF (l.run σ H' τ' F' Dn E t'.ok (h2 rfl) (o.of t'))
def wAsg (we : EW) (wg : GW) : SW := fun E τ => we τ (fun d τ' => wg d τ' E.nx) E.ex
theorem ds_asg {t : TE} {w : EW} {vs : List Nat} {g : TG} {wg : GW} (h : DE K W t w) (l : DG K vs g wg) : DS K W (tAsg t g) (wAsg w wg) := by
  refine ⟨fun σ H τ F Dn E S hw o => h.run σ H τ F _ _ E.ex S hw (fun v d τ' F' H' t' r hq => ?_) o.xto⟩
  refine l.run σ H' τ' F' v d _ _ t'.ok r hq fun σ2 τ2 S2 o2 _ _ q => ?_
  exact o.nx σ2 τ2 F' H' (t'.at S2 o2) q
/-- a, b = e1, e2 -/
def wPar (i j : Nat) (wa : AW) : SW := fun E τ => wa τ (fun ds τ' => ∃ d d', ds = [d, d'] ∧ E.nx ((τ'.set i (.dat d)).set j (.dat d'))) E.ex
theorem ds_par {i j : Nat} {t : TA} {w : AW} (h : DA K W t w) : DS K W (tPar i j t) (wPar i j w) := by
  refine ⟨fun σ H τ F Dn E S hw o => h.run σ H τ F _ _ E.ex S hw (fun vs ds τ' F' H' t' r ⟨d, d', e, hq⟩ => ?_) o.xto⟩
  subst e
  obtain ⟨v, v', rfl, r1, r2⟩ := r.two
  refine ⟨v, v', rfl, ?_⟩
  refine o.nx _ _ F' H' (t'.at ((t'.ok.set r1).set r2) fun p ⟨k, ds, h⟩ => ⟨k, ds, ?_⟩) hq
  exact own_set (c := .dat d) (fun p ds z => nomatch z) (own_set (c := .dat d') (fun p ds z => nomatch z) h)

/-! ### lists of the frame's own -/
theorem SOk.setOwn {F H : Hp} {σ : L2.St} {τ : List Cell} {i : Nat} {p : Addr} {ds : Cont} {vs : HO} (S : SOk K F H σ τ) (hF : F p = none) (hH : H p = some vs) (r : CRep K F vs ds) (n : ¬ IsOwn τ p) :
    SOk K F H (σ.set i (some (.ref p))) (τ.set i (.own p ds)) := by
  have get : ∀ {j : Nat} {q : Addr} {es : Cont}, (τ.set i (Cell.own p ds))[j]? = some (Cell.own q es) → (j = i ∧ q = p ∧ es = ds) ∨ τ[j]? = some (Cell.own q es) := fun {j q es} h => by
    by_cases e : i = j
    · subst e
      by_cases hl : i < τ.length
      · rw [List.getElem?_set_self hl] at h
        cases h
        exact .inl ⟨rfl, rfl, rfl⟩
      · rw [List.set_eq_of_length_le (Nat.le_of_not_lt hl)] at h
        exact .inr h
    · rw [List.getElem?_set_ne e] at h
      exact .inr h
  refine ⟨S.tabs, S.sub, by rw [List.length_set, List.length_set, S.len], fun j s c h1 h2 => ?_, fun j q es h => ?_, fun j k q es fs h1 h2 => ?_⟩
  · by_cases e : i = j
    · subst e
      by_cases hl : i < σ.length
      · rw [List.getElem?_set_self hl] at h1
        rw [List.getElem?_set_self (by rw [← S.len]; exact hl)] at h2
        cases h1; cases h2
        exact rfl
      · rw [List.getElem?_eq_none (by rw [List.length_set]; exact Nat.le_of_not_lt hl)] at h1
        cases h1
    · rw [List.getElem?_set_ne e] at h1 h2
      exact S.slot j s c h1 h2
  · rcases get h with ⟨_, rfl, rfl⟩ | h
    · exact ⟨hF, vs, hH, r⟩
    · exact S.own j q es h
  · rcases get h1 with ⟨a1, a2, a3⟩ | h1
    · rcases get h2 with ⟨b1, b2, b3⟩ | h2
      · rw [a1, b1]
      · exact absurd ⟨k, fs, by rw [← a2]; exact h2⟩ n
    · rcases get h2 with ⟨b1, b2, b3⟩ | h2
      · exact absurd ⟨j, es, by rw [← b2]; exact h1⟩ n
      · exact S.inj j k q es fs h1 h2
theorem new_not_own {F H : Hp} {σ : L2.St} {τ : List Cell} {p : Addr} (S : SOk K F H σ τ) (h : H p = none) : ¬ IsOwn τ p := fun ⟨i, es, e⟩ => by
  obtain ⟨_, us, e2, _⟩ := S.own i p es e
  rw [h] at e2; cases e2
theorem new_not_data {F H : Hp} {σ : L2.St} {τ : List Cell} {p : Addr} (S : SOk K F H σ τ) (h : H p = none) : F p = none := by
  cases q : F p with
  | none => rfl
  | some u => rw [S.sub _ _ q] at h; cases h
/-- x = [..], x a list of the frame's own -/
def wLstOwn (i : Nat) (wa : AW) : SW := fun E τ => wa τ (fun ds τ' => ds.length ≤ 1000 ∧ ∀ p, E.nx (τ'.set i (.own p (.lst ds)))) E.ex
theorem to_own {F H F' H' : Hp} {σ : L2.St} {τ τ' : List Cell} {i : Nat} {p : Addr} {ds : Cont} {vs : HO} (t : To K F H σ τ F' H' τ') (hp : H' p = none) (r : CRep K F' vs ds) :
    To K F H (σ.set i (some (.ref p))) τ F' (upd H' p vs) (τ'.set i (.own p ds)) := by
  have nO := new_not_own t.ok hp
  have nF := new_not_data t.ok hp
  have hp0 : Fr H p := t.ext.there p (fr_none hp)
  have T2 := t.touch (o := vs) hp0 nF nO (tabs_new hp)
  refine ⟨T2.ext, fun q ⟨j, es, h⟩ => ?_, T2.ok.setOwn nF upd_same r nO⟩
  by_cases e : i = j
  · subst e
    by_cases hl : i < τ'.length
    · rw [List.getElem?_set_self hl] at h
      cases h
      exact .inr hp0
    · rw [List.set_eq_of_length_le (Nat.le_of_not_lt hl)] at h
      exact t.grow q ⟨_, _, h⟩
  · rw [List.getElem?_set_ne e] at h
    exact t.grow q ⟨_, _, h⟩
theorem ds_lstOwn {i : Nat} {t : TA} {w : AW} (h : DA K W t w) : DS K W (tAsg (tLst t) (gName i)) (wLstOwn i w) := by
  refine ⟨fun σ H τ F Dn E S hw o => h.run σ H τ F _ _ E.ex S hw (fun vs ds τ' F' H' t' r ⟨hl, hq⟩ => ?_) o.xto⟩
  refine ⟨by rw [r.length]; exact Nat.le_of_lt (small1000 hl), fun p hp => ?_⟩
  exact o.nx _ _ F' _ (to_own t' hp (.lst r)) (hq p)
/-- what stands in an own list is changed -/
theorem to_change {F H F' H' : Hp} {σ : L2.St} {τ τ' : List Cell} {i : Nat} {p : Addr} {ds es : Cont} {vs : HO} (t : To K F H σ τ F' H' τ') (h : τ'[i]? = some (.own p ds)) (r : CRep K F' vs es) :
    To K F H σ τ F' (upd H' p vs) (τ'.set i (.own p es)) := by
  have hi : i < τ'.length := (List.getElem?_eq_some_iff.mp h).1
  have own1 : IsOwn τ' p := ⟨i, ds, h⟩
  obtain ⟨hF, us, hH, hR⟩ := t.ok.own i p ds h
  have nt1 : LamX.Tabs TB.T H' → LamX.Tabs TB.T (upd H' p vs) := tabs_crep hH hR
  have get : ∀ {j : Nat} {q : Addr} {fs : Cont}, (τ'.set i (Cell.own p es))[j]? = some (Cell.own q fs) → (j = i ∧ q = p ∧ fs = es) ∨ (j ≠ i ∧ τ'[j]? = some (Cell.own q fs)) := fun {j q fs} h => by
    by_cases e : i = j
    · subst e
      rw [List.getElem?_set_self hi] at h
      cases h
      exact .inl ⟨rfl, rfl, rfl⟩
    · rw [List.getElem?_set_ne e] at h
      exact .inr ⟨fun z => e z.symm, h⟩
  refine ⟨⟨t.ext.f, t.ext.new, fun a u e z nt => ?_, fun a e => ?_, fun z => ⟨nt1 (t.ext.tabs z).1, (t.ext.tabs z).2⟩⟩, fun q ⟨j, fs, e⟩ => ?_, ⟨⟨nt1 t.ok.tabs.1, t.ok.tabs.2⟩, fun a u e => ?_, by rw [List.length_set]; exact t.ok.len, fun j s c h1 h2 => ?_, fun j q fs e => ?_, fun j k q fs gs h1 h2 => ?_⟩⟩
  · by_cases q : a = p
    · subst q
      rcases t.grow a own1 with z' | z'
      · exact absurd z' z
      · exact (z' _ e nt).elim
    · rw [upd_ne q]; exact t.ext.keep a u e z nt
  · by_cases q : a = p
    · subst q; exact (e _ upd_same r.nt).elim
    · exact t.ext.there a fun o' e' => e o' (by rw [upd_ne q]; exact e')
  · rcases get e with ⟨_, rfl, _⟩ | ⟨_, e⟩
    · exact t.grow _ own1
    · exact t.grow q ⟨j, fs, e⟩
  · rw [upd_ne (fun z => by rw [z, hF] at e; cases e)]
    exact t.ok.sub a u e
  · by_cases e : i = j
    · subst e
      rw [List.getElem?_set_self hi] at h2
      cases h2
      exact (show s = some (.ref p) from t.ok.slot i s _ h1 h)
    · rw [List.getElem?_set_ne e] at h2
      exact t.ok.slot j s c h1 h2
  · rcases get e with ⟨rfl, rfl, rfl⟩ | ⟨n, e⟩
    · exact ⟨hF, vs, upd_same, r⟩
    · obtain ⟨g1, ws, g2, g3⟩ := t.ok.own j q fs e
      refine ⟨g1, ws, ?_, g3⟩
      rw [upd_ne (fun z => n (t.ok.inj j i p fs ds (by rw [← z]; exact e) h))]
      exact g2
  · rcases get h1 with ⟨a1, a2, a3⟩ | ⟨n1, h1⟩
    · rcases get h2 with ⟨b1, b2, b3⟩ | ⟨n2, h2⟩
      · rw [a1, b1]
      · exact absurd (t.ok.inj k i p gs ds (by rw [← a2]; exact h2) h) n2
    · rcases get h2 with ⟨b1, b2, b3⟩ | ⟨n2, h2⟩
      · exact absurd (t.ok.inj j i p fs ds (by rw [← b2]; exact h1) h) n1
      · exact t.ok.inj j k q fs gs h1 h2
theorem own_at {F H : Hp} {σ : L2.St} {τ : List Cell} {i : Nat} {p : Addr} {ds : Cont} (S : SOk K F H σ τ) (h : τ[i]? = some (.own p ds)) : σ[i]? = some (some (.ref p)) ∧ F p = none ∧ ∃ vs, H p = some vs ∧ CRep K F vs ds := by
  have hi : i < σ.length := by rw [S.len]; exact (List.getElem?_eq_some_iff.mp h).1
  have e : σ[i] = some (.ref p) := S.slot i σ[i] _ (List.getElem?_eq_getElem hi) h
  exact ⟨by rw [List.getElem?_eq_getElem hi, e], S.own i p ds h⟩
theorem own_lst {F H : Hp} {σ : L2.St} {τ : List Cell} {i : Nat} {p : Addr} {ds : List D} (S : SOk K F H σ τ) (h : τ[i]? = some (.own p (.lst ds))) : σ[i]? = some (some (.ref p)) ∧ F p = none ∧ ∃ vs, H p = some (.lst vs) ∧ Reps K F vs ds := by
  obtain ⟨h1, h2, o, h3, h4⟩ := own_at S h
  cases h4 with
  | @lst vs _ r => exact ⟨h1, h2, vs, h3, r⟩
/-- x.append(e), x an own list: as a statement -/
def wAppend (i : Nat) (wa : AW) : SW := fun E τ => (∃ p es, τ[i]? = some (.own p (.lst es))) ∧ wa τ (fun ds τ' => ∃ p es d, ds = [d] ∧ τ'[i]? = some (.own p (.lst es)) ∧ es.length < 1000 ∧ E.nx (τ'.set i (.own p (.lst (es ++ [d]))))) E.ex
theorem ds_append {i : Nat} {t : TA} {w : AW} (h : DA K W t w) : DS K W (tDrop (tBM K "list" rAppend (tVar i) t)) (wAppend i w) := by
  refine ⟨fun σ H τ F Dn E S ⟨⟨p, es, e0⟩, hw⟩ o => ?_⟩
  obtain ⟨s0, _, vs0, h0, _⟩ := own_lst S e0
  refine ⟨.ref p, s0, .inl ⟨rfl, vs0, .inl (.inl h0)⟩, ?_⟩
  refine h.run σ H τ F _ _ E.ex S hw (fun vs ds τ' F' H' t' r ⟨p', es', d, ed, e1, hl, hq⟩ => ?_) o.xto
  subst ed
  obtain ⟨v, rfl, r1⟩ := r.one
  obtain ⟨s1, _, vs1, h1, r2⟩ := own_lst t'.ok e1
  rw [s0] at s1
  cases s1
  refine ⟨p, vs1, v, rfl, rfl, h1, by rw [r2.length]; exact small1000 (Nat.le_of_lt hl), ?_⟩
  exact o.nx σ _ F' _ (to_change t' e1 (.lst (r2.append (.cons r1 .nil)))) hq
/-- x[k] = e, x an own list -/
def wSetOwn (i : Nat) (we wk : EW) : SW := fun E τ => we τ (fun d τ1 => (∃ p es, τ1[i]? = some (.own p (.lst es))) ∧ wk τ1 (fun k τ2 => ∃ p es n j, τ2[i]? = some (.own p (.lst es)) ∧ k = .int n ∧ ixN es.length n = some j ∧ E.nx (τ2.set i (.own p (.lst (es.set j d))))) E.ex) E.ex
theorem ds_setOwn {i : Nat} {t u : TE} {w v : EW} (h : DE K W t w) (g : DE K W u v) : DS K W (tAsg t (gSub (tVar i) u rSetL)) (wSetOwn i w v) := by
  refine ⟨fun σ H τ F Dn E S hw o => h.run σ H τ F _ _ E.ex S hw (fun x d τ1 F1 H1 t1 r1 ⟨⟨p, es, e0⟩, h1⟩ => ?_) o.xto⟩
  obtain ⟨s0, _, vs0, h0, _⟩ := own_lst t1.ok e0
  refine ⟨.ref p, s0, ?_⟩
  refine g.run σ H1 τ1 F1 _ _ E.ex t1.ok h1 (fun y k τ2 F2 H2 t2 r2 ⟨p', es', n, j, e1, ek, ej, hq⟩ => ?_) (o.of t1).xto
  subst ek
  obtain ⟨s1, _, vs1, h2, r3⟩ := own_lst t2.ok e1
  rw [s0] at s1
  cases s1
  refine ⟨p, vs1, n, j, rfl, r2.int_of, h2, by rw [r3.length]; exact ej, ?_⟩
  exact o.nx σ _ F2 _ (to_change (t1.trans t2) e1 (.lst (Reps.set (r1.mono t2.ext.f) j r3))) hq
/-- x[k] of an own list -/
def wIxOwn (i : Nat) (wk : EW) : EW := fun τ q e => (∃ p es, τ[i]? = some (.own p (.lst es))) ∧ wk τ (fun k τ1 => ∃ p es n d, τ1[i]? = some (.own p (.lst es)) ∧ k = .int n ∧ atI es n = some d ∧ q d τ1) e
theorem de_ixOwn {i : Nat} {t : TE} {w : EW} (h : DE K W t w) : DE K W (tOp (rIx K) (tVar i) t) (wIxOwn i w) := by
  refine ⟨fun σ H τ F Q q e S ⟨⟨p, es, e0⟩, hw⟩ k x => ?_⟩
  obtain ⟨s0, _, vs0, h0, _⟩ := own_lst S e0
  refine ⟨.ref p, s0, ?_⟩
  refine h.run σ H τ F _ _ e S hw (fun y kd τ1 F1 H1 t1 r1 ⟨p', es', n, d, e1, ek, ea, hq⟩ => ?_) x
  subst ek
  obtain ⟨s1, _, vs1, h1, r2⟩ := own_lst t1.ok e1
  rw [s0] at s1
  cases s1
  obtain ⟨v, ev, rv⟩ := atI_rep r2 ea
  exact .inl ⟨p, vs1, n, v, rfl, r1.int_of, .inl (.inl h1), ev, k v d τ1 F1 H1 t1 rv hq⟩
/-- a built-in of an own list alone that keeps nothing of it: len, tuple, list .. -/
def OpPeek (K : PySem.W.Frag) (r : List V → Hp → VK → Prop) (g : List D → (D → Prop) → Prop) : Prop :=
  ∀ F H p vs ds (q : D → Prop) Q, Same F H → H p = some (.lst vs) → Reps K F vs ds → g ds q → (∀ v d F' H', Ext [] F H F' H' → Same F' H' → Rep K F' v d → q d → Q v H') → r [.ref p] H Q
def wPeek (i : Nat) (g : List D → (D → Prop) → Prop) : EW := fun τ q _ => ∃ p es, τ[i]? = some (.own p (.lst es)) ∧ g es fun d => q d τ
theorem de_peek {i : Nat} {r : List V → Hp → VK → Prop} {g : List D → (D → Prop) → Prop} (o : OpPeek K r g) : DE K W (tCB r (tCons (tVar i) tNil)) (wPeek i g) := by
  refine ⟨fun σ H τ F Q q e S ⟨p, es, e0, hg⟩ k x => ?_⟩
  obtain ⟨s0, _, vs0, h0, r0⟩ := own_lst S e0
  refine ⟨.ref p, s0, ?_⟩
  exact o F H p vs0 es _ Q S.sub h0 r0 hg fun v d F' H' x1 s1 rv hq => k v d τ F' H' (.small S x1 s1) rv hq
theorem p_len : OpPeek K (rLenS K) (fun es q => q (.int es.length)) := fun F H p vs ds q Q s h r hq k =>
  ⟨p, vs, rfl, .inl (.inl (.inl h)), k _ (.int ds.length) F H (.refl _ _ _) s (by rw [r.length]; exact .int _) hq⟩
theorem p_tupleOf : OpPeek K (rTupleOf K) (fun es q => q (.tup es)) := fun F H p vs ds q Q s h r hq k => by
  refine ⟨p, vs, rfl, .inl ⟨.inl (.inl h), fun l hl => ?_⟩⟩
  obtain ⟨x1, x2⟩ := new_ext (o := .tup vs) s hl
  exact k _ (.tup ds) _ _ x1 x2 (.tup (.inl (.inl upd_same)) (r.mono (new_same s hl))) hq
theorem p_listOf : OpPeek K (rListOf K) (fun es q => q (.lst es)) := fun F H p vs ds q Q s h r hq k => by
  refine ⟨p, vs, rfl, .inl (.inl (.inl h)), fun l hl => ?_⟩
  obtain ⟨x1, x2⟩ := new_ext (o := .lst vs) s hl
  exact k _ (.lst ds) _ _ x1 x2 (.lst upd_same (r.mono (new_same s hl))) hq
/-- return x, x an own list: it becomes data -/
def wRetOwn (i : Nat) : SW := fun E τ => ∃ p es, τ[i]? = some (.own p (.lst es)) ∧ E.rt (.lst es) (τ.set i .any)
theorem ds_retOwn {i : Nat} : DS K W (tRet (tVar i)) (wRetOwn i) := by
  refine ⟨fun σ H τ F Dn E S ⟨p, es, e0, hq⟩ o => ?_⟩
  obtain ⟨s0, f0, vs0, h0, r0⟩ := own_lst S e0
  refine ⟨.ref p, s0, ?_⟩
  have s : Same F (upd F p (.lst vs0)) := same_upd f0
  refine o.rt (.ref p) (.lst es) (τ.set i .any) (upd F p (.lst vs0)) H ⟨⟨s, fun a u e => ?_, fun _ _ e _ _ => e, fun _ e => e, fun g => ⟨g.1, nt_upd nt_lst g.2⟩⟩, fun q ⟨j, fs, e⟩ => .inl ⟨j, fs, own_set (c := .any) (fun p ds z => nomatch z) e⟩, fun a u e => ?_, fun j q fs e => ?_⟩ (.lst upd_same (r0.mono s)) hq
  · by_cases q : a = p
    · subst q; exact .inr (.inr ⟨i, .lst es, e0⟩)
    · rw [upd_ne q] at e; exact .inl e
  · by_cases q : a = p
    · subst q; rw [upd_same] at e; rw [h0]; exact e
    · rw [upd_ne q] at e; exact S.sub a u e
  · have hne : i ≠ j := fun z => by
      subst z
      rw [List.getElem?_set_self (List.getElem?_eq_some_iff.mp e0).1] at e
      cases e
    rw [List.getElem?_set_ne hne] at e
    obtain ⟨g1, ws, g2, g3⟩ := S.own j q fs e
    refine ⟨?_, ws, g2, g3.mono s⟩
    rw [upd_ne (fun z => hne (S.inj i j p (.lst es) fs e0 (by rw [← z]; exact e)))]
    exact g1

/-- in a def that hands back a list of its own -/
def wRetFr (wa : AW) : SW := fun E τ => wa τ (fun ds τ' => ds.length ≤ 1000 ∧ E.rf ds τ') E.ex
theorem ds_retFr {t : TA} {w : AW} (h : DA K W t w) : DS K W (tRet (tLst t)) (wRetFr w) := by
  refine ⟨fun σ H τ F Dn E S hw o => h.run σ H τ F _ _ E.ex S hw (fun vs ds τ' F' H' t' r ⟨hl, hq⟩ => ?_) o.xto⟩
  refine ⟨by rw [r.length]; exact Nat.le_of_lt (small1000 hl), fun p hp => ?_⟩
  have hp0 := t'.back (fr_none hp)
  have nF := new_not_data t'.ok hp
  have nO := new_not_own t'.ok hp
  exact o.rf p vs ds τ' F' _ (t'.touch hp0 nF nO (tabs_new hp)).ret nF hp0 upd_same r nO hq
def wRetOwnFr (i : Nat) : SW := fun E τ => ∃ p es, τ[i]? = some (.own p (.lst es)) ∧ E.rf es (τ.set i .any)

/-! ### for -/
def wFor (wI : IW) (wg : GW) (wb : SW) : SW := fun E τ => wI τ (fun ds τ1 => ∃ inv : Nat → List Cell → Prop, inv 0 τ1 ∧
  (∀ i d τ2, ds[i]? = some d → inv i τ2 → wg d τ2 fun τ3 => wb { E with nx := inv (i + 1), ct := inv (i + 1), bk := E.nx } τ3) ∧ ∀ τ2, inv ds.length τ2 → E.nx τ2) E.ex
theorem ds_for {wi : TI} {g : TG} {tb : TS} {vs : List Nat} {wI : IW} {wg : GW} {wb : SW} (hi : DI K W wi wI) (hg : DG K vs g wg) (hb : DS K W tb wb) : DS K W (tFor wi g tb) (wFor wI wg wb) := by
  refine ⟨fun σ H τ F Dn E S hw o => hi.run σ H τ F _ _ E.ex S hw (fun J ds τ1 F1 H1 t1 it ⟨inv, h0, hst, hd⟩ => ?_) o.xto⟩
  have o1 := o.of t1
  refine ⟨fun i m σ2 H2 => m = ds.length - i ∧ i ≤ ds.length ∧ ∃ τ2 F2, To K F1 H1 σ2 τ1 F2 H2 τ2 ∧ inv i τ2, ⟨_, rfl, Nat.zero_le _, τ1, F1, .refl t1.ok, h0⟩, ?_⟩
  rintro i m σ2 H2 ⟨rfl, hle, τ2, F2, t2, hinv⟩
  by_cases hlt : i < ds.length
  · refine .inr ⟨it.go i F2 H2 t2.ext.f t2.ok.sub hlt, fun σ' H' => ∃ τ' F', To K F1 H1 σ' τ1 F' H' τ' ∧ inv (i + 1) τ', fun σ' H' ⟨τ', F', t', q⟩ => ⟨ds.length - (i + 1), by omega, rfl, hlt, τ', F', t', q⟩, fun x H' y => ?_⟩
    obtain ⟨d, F3, ed, x3, s3, r3⟩ := it.yld i F2 H2 x H' t2.ext.f t2.ok.sub hlt y
    have T3 : To K F1 H1 σ2 τ1 F3 H' τ2 := t2.trans (.small t2.ok x3 s3)
    refine hg.run σ2 H' τ2 F3 x d _ _ T3.ok r3 (hst i d τ2 ed hinv) fun σ4 τ4 S4 o4 _ _ h4 => ?_
    have T4 : To K F1 H1 σ4 τ1 F3 H' τ4 := T3.at S4 o4
    refine hb.run σ4 H' τ4 F3 _ _ S4 h4 ?_
    have o4 := o1.of T4
    exact ⟨fun σ' τ' F' H' u q => ⟨τ', F', T4.trans u, q⟩, fun σ' τ' F' H' u q => o4.nx σ' τ' F' H' u q, fun σ' τ' F' H' u q => ⟨τ', F', T4.trans u, q⟩, o4.rt, o4.ex, o4.rf⟩
  · have e : i = ds.length := by omega
    subst e
    exact .inl ⟨it.stop F2 H2 t2.ext.f t2.ok.sub, o1.nx σ2 τ2 F2 H2 t2 (hd τ2 hinv)⟩

/-! ### defs and their calls -/
abbrev FS := List Cell → (D → List Cell → Prop) → (Xn → List Cell → Prop) → Prop
/-- what stands behind a call where the own lists were handed in -/
def CsOk (K : PySem.W.Frag) (F H : Hp) (cs cs' : List Cell) : Prop := cs'.length = cs.length ∧ ∀ (i : Nat) (p : Addr) (ds : Cont), cs[i]? = some (Cell.own p ds) → ∃ ds', cs'[i]? = some (Cell.own p ds') ∧ F p = none ∧ ∃ vs, H p = some vs ∧ CRep K F vs ds'
def spOf (K : PySem.W.Frag) (n : Nat) (fs : FS) : Sp := fun vs H Q E => vs.length = n ∧ ∃ F cs q e, SOk K F H (vs.map some) cs ∧ fs cs q e ∧
  (∀ v d cs' F' H', Ext cs F H F' H' → Same F' H' → CsOk K F' H' cs cs' → Rep K F' v d → q d cs' → Q v H') ∧
  (∀ x cls dx cs' F' H', Ext cs F H F' H' → Same F' H' → CsOk K F' H' cs cs' → XRep K F' H' cls dx x → e x cs' → E cls dx H')
/-- the own parameters are still there -/
def Keeps : List Cell → List Cell → Prop
  | [], _ => True
  | _ :: _, [] => False
  | .own p _ :: cs, c :: τ => (∃ ds', c = .own p ds') ∧ Keeps cs τ
  | .any :: cs, _ :: τ => Keeps cs τ
  | .dat _ :: cs, _ :: τ => Keeps cs τ
def ends : List Cell → List Cell → List Cell
  | [], _ => []
  | cs, [] => cs
  | .own p ds :: cs, c :: τ => c :: ends cs τ
  | .any :: cs, _ :: τ => .any :: ends cs τ
  | .dat d :: cs, _ :: τ => .dat d :: ends cs τ
theorem ends_length : ∀ (cs τ : List Cell), (ends cs τ).length = cs.length
  | [], _ => by unfold ends; rfl
  | .own p ds :: cs, c :: τ => by unfold ends; rw [List.length_cons, List.length_cons, ends_length cs τ]
  | .any :: cs, c :: τ => by unfold ends; rw [List.length_cons, List.length_cons, ends_length cs τ]
  | .dat d :: cs, c :: τ => by unfold ends; rw [List.length_cons, List.length_cons, ends_length cs τ]
  | c :: cs, [] => by cases c <;> rfl
theorem ends_own : ∀ {cs τ : List Cell} {i : Nat} {p : Addr} {ds : Cont}, Keeps cs τ → cs[i]? = some (.own p ds) → ∃ ds', (ends cs τ)[i]? = some (.own p ds') ∧ τ[i]? = some (.own p ds')
  | [], _, i, p, ds, _, h => by simp at h
  | c :: cs, [], i, q, es, k, h => k.elim
  | .own p ds :: cs, c :: τ, 0, q, es, ⟨⟨ds', e⟩, k⟩, h => by
    cases h
    subst e
    exact ⟨ds', rfl, rfl⟩
  | .any :: cs, c :: τ, 0, q, es, k, h => by cases h
  | .dat d :: cs, c :: τ, 0, q, es, k, h => by cases h
  | .own p ds :: cs, c :: τ, i + 1, q, es, ⟨_, k⟩, h => by
    obtain ⟨ds', h1, h2⟩ := ends_own (i := i) k (by simpa using h)
    exact ⟨ds', by unfold ends; simpa using h1, by simpa using h2⟩
  | .any :: cs, c :: τ, i + 1, q, es, k, h => by
    obtain ⟨ds', h1, h2⟩ := ends_own (cs := cs) (τ := τ) (i := i) k (by simpa using h)
    exact ⟨ds', by unfold ends; simpa using h1, by simpa using h2⟩
  | .dat d :: cs, c :: τ, i + 1, q, es, k, h => by
    obtain ⟨ds', h1, h2⟩ := ends_own (cs := cs) (τ := τ) (i := i) k (by simpa using h)
    exact ⟨ds', by unfold ends; simpa using h1, by simpa using h2⟩
theorem cs_ok {F H : Hp} {cs τ : List Cell} (k : Keeps cs τ) (o : OwnOk K F H τ) : CsOk K F H cs (ends cs τ) := by
  refine ⟨ends_length cs τ, fun i p ds h => ?_⟩
  obtain ⟨ds', h1, h2⟩ := ends_own k h
  obtain ⟨f1, vs, f2, f3⟩ := o i p ds' h2
  exact ⟨ds', h1, f1, vs, f2, f3⟩
theorem own_app {cs : List Cell} {n : Nat} {i : Nat} {p : Addr} {ds : Cont} (h : (cs ++ List.replicate n Cell.any)[i]? = some (.own p ds)) : cs[i]? = some (.own p ds) := by
  by_cases hi : i < cs.length
  · rw [List.getElem?_append_left hi] at h
    exact h
  · rw [List.getElem?_append_right (Nat.le_of_not_lt hi), List.getElem?_replicate] at h
    split at h <;> cases h
theorem isOwn_app {cs : List Cell} {n : Nat} {p : Addr} (h : IsOwn (cs ++ List.replicate n Cell.any) p) : IsOwn cs p := by
  obtain ⟨i, ds, e⟩ := h
  exact ⟨i, ds, own_app e⟩
theorem app_isOwn {cs : List Cell} {n : Nat} {p : Addr} (h : IsOwn cs p) : IsOwn (cs ++ List.replicate n Cell.any) p := by
  obtain ⟨i, ds, e⟩ := h
  exact ⟨i, ds, by rw [List.getElem?_append_left (List.getElem?_eq_some_iff.mp e).1]; exact e⟩
theorem Ext.app {cs : List Cell} {n : Nat} {F H F' H' : Hp} (x : Ext (cs ++ List.replicate n Cell.any) F H F' H') : Ext cs F H F' H' := by
  refine ⟨x.f, fun a o h => ?_, fun a o h z nt => x.keep a o h (fun q => z (isOwn_app q)) nt, x.there, x.tabs⟩
  rcases x.new a o h with z | z | z
  · exact .inl z
  · exact .inr (.inl z)
  · exact .inr (.inr (isOwn_app z))
end
/-- a def, by its body -/
theorem def_ok {P : Program} {w : World} {K : PySem.W.Frag} {mg : Str → Option Value} {base : Heap} {x qual : Str} {st : Stmt} {f : Addr} {fd : FuncData} {N ps : List Str} {k : Nat} {fs : FS} {wb : SW} (Fn : Fun K x qual st f fd) (S : FnScope N ps (defScope st))
    (hw : ∀ cs q e, cs.length = ps.length → fs cs q e → wb ⟨fun τ => Keeps cs τ ∧ q .non (ends cs τ), fun d τ => Keeps cs τ ∧ q d (ends cs τ), fun _ _ => False, fun _ => False, fun _ => False, fun x τ => Keeps cs τ ∧ e x (ends cs τ)⟩ (cs ++ List.replicate (N.length - ps.length) .any)) 
    (hb : ∀ (cdv : Value) (A : Around) (outer : List Env) (s : Shared) (H : Hp) (E : XK), Room k (A.deeper (envOfC qual (defScope st) s.heap.objs.size f cdv)) → Takes (cxOf (L2.CX P w) P w K mg base N qual (defScope st) f cdv A outer s H E) (fun cls d _ H => E cls d H) →
      ∃ t, PSs (cxOf (L2.CX P w) P w K mg base N qual (defScope st) f cdv A outer s H E) (defBody st) t ∧ DS K (fun cls d _ H => E cls d H) t wb) :
    FnOk P w K mg base (L2.CX P w) (k + 1) f fd ps (spOf K ps.length fs) := by
  refine Fn.okX S (fun vs H Q E h => h.1) (fun cdv A outer s H vs Q E hr h => ?_)
  obtain ⟨t, h1, h2⟩ := hb cdv A outer s H E hr (takes_of rfl rfl rfl rfl)
  refine ⟨t, h1, ?_⟩
  obtain ⟨hl, F, cs, q, e, S0, hf, kq, ke⟩ := h
  have lcs : cs.length = ps.length := by rw [← S0.len, List.length_map]; exact hl
  have S1 : SOk K F H (L2.start N vs) (cs ++ List.replicate (N.length - ps.length) .any) := by
    unfold L2.start
    rw [hl]
    refine ⟨S0.tabs, S0.sub, by simp [lcs, hl], fun i v c e1 e2 => ?_, fun i p ds e1 => S0.own i p ds (own_app e1), fun i j p ds es e1 e2 => S0.inj i j p ds es (own_app e1) (own_app e2)⟩
    by_cases hi : i < cs.length
    · rw [List.getElem?_append_left hi] at e2
      rw [List.getElem?_append_left (by rw [List.length_map, hl, ← lcs]; exact hi)] at e1
      exact S0.slot i v c e1 e2
    · rw [List.getElem?_append_right (Nat.le_of_not_lt hi), List.getElem?_replicate] at e2
      split at e2
      · cases e2; exact trivial
      · cases e2
  refine h2.run _ H _ F _ _ S1 (hw cs q e lcs hf) ⟨fun σ' τ' F' H' u ⟨k, hq⟩ => ?_, fun _ _ _ _ _ z => z, fun _ _ _ _ _ z => z, fun v d τ' F' H' u r ⟨k, hq⟩ => ?_, fun σ' x cls dx τ' F' H' u r ⟨k, hq⟩ => ?_, ?_⟩
  · exact kq .non .non _ F' H' u.ext.app u.ok.sub (cs_ok k u.ok.own) .non hq
  · exact kq v d _ F' H' u.ext.app u.sub (cs_ok k u.own) r hq
  · exact ke x cls dx _ F' H' u.ext.app u.ok.sub (cs_ok k u.ok.own) r hq
  · exact fun _ _ _ _ _ _ _ _ _ _ _ _ z => False.elim z
/-! .. one that hands back a new list, which nobody else knows -/
abbrev FSF := List Cell → (List D → List Cell → Prop) → (Xn → List Cell → Prop) → Prop
def spFr (K : PySem.W.Frag) (n : Nat) (fs : FSF) : Sp := fun vs H Q E => vs.length = n ∧ ∃ F cs q e, SOk K F H (vs.map some) cs ∧ fs cs q e ∧
  (∀ p us ds cs' F' H', Ext cs F H F' H' → Same F' H' → CsOk K F' H' cs cs' → F' p = none → Fr H p → H' p = some (.lst us) → Reps K F' us ds → q ds cs' → Q (.ref p) H') ∧
  (∀ x cls dx cs' F' H', Ext cs F H F' H' → Same F' H' → CsOk K F' H' cs cs' → XRep K F' H' cls dx x → e x cs' → E cls dx H')
theorem s_ok {K : PySem.W.Frag} {F H : Hp} {vs : List V} {cs : List Cell} {N ps : List Str} (S0 : SOk K F H (vs.map some) cs) (hl : vs.length = ps.length) : cs.length = ps.length ∧ SOk K F H (L2.start N vs) (cs ++ List.replicate (N.length - ps.length) .any) := by
  have lcs : cs.length = ps.length := by rw [← S0.len, List.length_map]; exact hl
  refine ⟨lcs, ?_⟩
  unfold L2.start
  rw [hl]
  refine ⟨S0.tabs, S0.sub, by simp [lcs, hl], fun i v c e1 e2 => ?_, fun i p ds e1 => S0.own i p ds (own_app e1), fun i j p ds es e1 e2 => S0.inj i j p ds es (own_app e1) (own_app e2)⟩
  by_cases hi : i < cs.length
  · rw [List.getElem?_append_left hi] at e2
    rw [List.getElem?_append_left (by rw [List.length_map, hl, ← lcs]; exact hi)] at e1
    exact S0.slot i v c e1 e2
  · rw [List.getElem?_append_right (Nat.le_of_not_lt hi), List.getElem?_replicate] at e2
    split at e2
    · cases e2; exact trivial
    · cases e2
theorem def_okFr {P : Program} {w : World} {K : PySem.W.Frag} {mg : Str → Option Value} {base : Heap} {x qual : Str} {st : Stmt} {f : Addr} {fd : FuncData} {N ps : List Str} {k : Nat} {fs : FSF} {wb : SW} (Fn : Fun K x qual st f fd) (S : FnScope N ps (defScope st))
    (hw : ∀ cs q e, cs.length = ps.length → fs cs q e → wb ⟨fun _ => False, fun _ _ => False, fun ds τ => Keeps cs τ ∧ q ds (ends cs τ), fun _ => False, fun _ => False, fun x τ => Keeps cs τ ∧ e x (ends cs τ)⟩ (cs ++ List.replicate (N.length - ps.length) .any))
    (hb : ∀ (cdv : Value) (A : Around) (outer : List Env) (s : Shared) (H : Hp) (E : XK), Room k (A.deeper (envOfC qual (defScope st) s.heap.objs.size f cdv)) → Takes (cxOf (L2.CX P w) P w K mg base N qual (defScope st) f cdv A outer s H E) (fun cls d _ H => E cls d H) →
      ∃ t, PSs (cxOf (L2.CX P w) P w K mg base N qual (defScope st) f cdv A outer s H E) (defBody st) t ∧ DS K (fun cls d _ H => E cls d H) t wb) :
    FnOk P w K mg base (L2.CX P w) (k + 1) f fd ps (spFr K ps.length fs) := by
  refine Fn.okX S (fun vs H Q E h => h.1) (fun cdv A outer s H vs Q E hr h => ?_)
  obtain ⟨t, h1, h2⟩ := hb cdv A outer s H E hr (takes_of rfl rfl rfl rfl)
  refine ⟨t, h1, ?_⟩
  obtain ⟨hl, F, cs, q, e, S0, hf, kq, ke⟩ := h
  obtain ⟨lcs, S1⟩ := s_ok (N := N) S0 hl
  refine h2.run _ H _ F _ _ S1 (hw cs q e lcs hf) ⟨fun _ _ _ _ _ z => z.elim, fun _ _ _ _ _ z => z, fun _ _ _ _ _ z => z, fun _ _ _ _ _ _ _ z => z.elim, fun σ' x cls dx τ' F' H' u r ⟨k, hq⟩ => ?_, fun p us ds τ' F' H' u f1 h1 h2 r n ⟨k, hq⟩ => ?_⟩
  · exact ke x cls dx _ F' H' u.ext.app u.ok.sub (cs_ok k u.ok.own) r hq
  · exact kq p us ds _ F' H' u.ext.app u.sub (cs_ok k u.own) f1 h1 h2 r hq
section
variable {K : PySem.W.Frag} {W : WX}
/-! ### a call -/
inductive Arg where
  | d (d : D) | o (j : Nat)
def slots : List Arg → List Nat
  | [] => []
  | .d _ :: as => slots as
  | .o j :: as => j :: slots as
def cellsOf (τ : List Cell) : List Arg → List Cell
  | [] => []
  | .d d :: as => .dat d :: cellsOf τ as
  | .o j :: as => τ.getD j .any :: cellsOf τ as
def OwnArgs (τ : List Cell) : List Arg → Prop
  | [] => True
  | .d d :: as => OwnArgs τ as
  | .o j :: as => (∃ p es, τ[j]? = some (Cell.own p es)) ∧ OwnArgs τ as
def putBack (τ : List Cell) : List Arg → List Cell → List Cell
  | .o j :: as, c :: cs => putBack (τ.set j c) as cs
  | .d _ :: as, _ :: cs => putBack τ as cs
  | _, _ => τ
inductive ArgsOk (K : PySem.W.Frag) (F : Hp) (σ : L2.St) : List V → List Arg → Prop
  | nil : ArgsOk K F σ [] []
  | d {v : V} {vs : List V} {d : D} {as : List Arg} : Rep K F v d → ArgsOk K F σ vs as → ArgsOk K F σ (v :: vs) (.d d :: as)
  | o {v : V} {vs : List V} {j : Nat} {as : List Arg} : σ[j]? = some (some v) → ArgsOk K F σ vs as → ArgsOk K F σ (v :: vs) (.o j :: as)
theorem ArgsOk.mono {F F' : Hp} {σ : L2.St} (s : Same F F') : ∀ {vs : List V} {as : List Arg}, ArgsOk K F σ vs as → ArgsOk K F' σ vs as
  | _, _, .nil => .nil
  | _, _, .d r t => .d (r.mono s) (ArgsOk.mono s t)
  | _, _, .o e t => .o e (ArgsOk.mono s t)
theorem ArgsOk.length {F : Hp} {σ : L2.St} : ∀ {vs : List V} {as : List Arg}, ArgsOk K F σ vs as → vs.length = as.length
  | _, _, .nil => rfl
  | _, _, .d r t => by rw [List.length_cons, List.length_cons, ArgsOk.length t]
  | _, _, .o e t => by rw [List.length_cons, List.length_cons, ArgsOk.length t]
theorem cellsOf_length (τ : List Cell) : ∀ as, (cellsOf τ as).length = as.length
  | [] => rfl
  | .d d :: as => by unfold cellsOf; rw [List.length_cons, List.length_cons, cellsOf_length τ as]
  | .o d :: as => by unfold cellsOf; rw [List.length_cons, List.length_cons, cellsOf_length τ as]
theorem cellsOf_own {τ : List Cell} : ∀ {as : List Arg} {k : Nat} {p : Addr} {ds : Cont}, (cellsOf τ as)[k]? = some (.own p ds) → ∃ j, as[k]? = some (.o j) ∧ τ[j]? = some (.own p ds)
  | [], k, p, ds, h => by simp [cellsOf] at h
  | .d d :: as, 0, p, ds, h => by simp [cellsOf] at h
  | .o j :: as, 0, p, ds, h => by
    refine ⟨j, rfl, ?_⟩
    have h : τ.getD j .any = .own p ds := by simpa [cellsOf] using h
    rw [List.getD_eq_getElem?_getD] at h
    cases e : τ[j]? with
    | none => rw [e] at h; cases h
    | some c => rw [e] at h; exact congrArg some h
  | .d d :: as, k + 1, p, ds, h => by
    obtain ⟨j, h1, h2⟩ := cellsOf_own (as := as) (k := k) (by simpa [cellsOf] using h)
    exact ⟨j, by simpa using h1, h2⟩
  | .o d :: as, k + 1, p, ds, h => by
    obtain ⟨j, h1, h2⟩ := cellsOf_own (as := as) (k := k) (by simpa [cellsOf] using h)
    exact ⟨j, by simpa using h1, h2⟩
theorem mem_slots : ∀ {as : List Arg} {k j : Nat}, as[k]? = some (.o j) → j ∈ slots as
  | [], k, j, h => by simp at h
  | .d d :: as, 0, j, h => by cases h
  | .o i :: as, 0, j, h => by cases h; exact List.mem_cons_self ..
  | .d d :: as, k + 1, j, h => mem_slots (as := as) (k := k) (by simpa using h)
  | .o i :: as, k + 1, j, h => List.mem_cons_of_mem _ (mem_slots (as := as) (k := k) (by simpa using h))
theorem slots_mem : ∀ {as : List Arg} {j : Nat}, j ∈ slots as → ∃ k : Nat, as[k]? = some (Arg.o j)
  | [], j, h => by simp [slots] at h
  | .d d :: as, j, h => by
    obtain ⟨k, e⟩ := slots_mem (as := as) h
    exact ⟨k + 1, by simpa using e⟩
  | .o i :: as, j, h => by
    rcases List.mem_cons.mp h with rfl | h
    · exact ⟨0, rfl⟩
    · obtain ⟨k, e⟩ := slots_mem (as := as) h
      exact ⟨k + 1, by simpa using e⟩
theorem slot_inj : ∀ {as : List Arg} {k l j : Nat}, (slots as).Nodup → as[k]? = some (.o j) → as[l]? = some (.o j) → k = l
  | [], k, l, j, _, h, _ => by simp at h
  | .d d :: as, 0, l, j, _, h, _ => by cases h
  | .d d :: as, k, 0, j, _, _, h => by cases h
  | .d d :: as, k + 1, l + 1, j, nd, h, h' => congrArg (· + 1) (slot_inj (as := as) (k := k) (l := l) nd (by simpa using h) (by simpa using h'))
  | .o i :: as, 0, 0, j, _, _, _ => rfl
  | .o i :: as, 0, l + 1, j, nd, h, h' => by
    cases h
    exact absurd (mem_slots (as := as) (k := l) (by simpa using h')) (List.nodup_cons.mp nd).1
  | .o i :: as, k + 1, 0, j, nd, h, h' => by
    cases h'
    exact absurd (mem_slots (as := as) (k := k) (by simpa using h)) (List.nodup_cons.mp nd).1
  | .o i :: as, k + 1, l + 1, j, nd, h, h' => congrArg (· + 1) (slot_inj (as := as) (k := k) (l := l) (List.nodup_cons.mp nd).2 (by simpa using h) (by simpa using h'))
theorem putBack_out : ∀ {as : List Arg} {cs τ : List Cell} {i : Nat}, i ∉ slots as → (putBack τ as cs)[i]? = τ[i]?
  | [], cs, τ, i, _ => by cases cs <;> rfl
  | .d d :: as, [], τ, i, h => rfl
  | .o d :: as, [], τ, i, h => rfl
  | .d d :: as, c :: cs, τ, i, h => putBack_out (as := as) h
  | .o j :: as, c :: cs, τ, i, h => by
    have h' : i ≠ j ∧ i ∉ slots as := by simpa [slots] using h
    show (putBack (τ.set j c) as cs)[i]? = _
    rw [putBack_out (as := as) h'.2, List.getElem?_set_ne (Ne.symm h'.1)]
theorem putBack_length : ∀ {as : List Arg} {cs τ : List Cell}, (putBack τ as cs).length = τ.length
  | [], cs, τ => by cases cs <;> rfl
  | .d d :: as, [], τ => rfl
  | .o d :: as, [], τ => rfl
  | .d d :: as, c :: cs, τ => putBack_length (as := as)
  | .o j :: as, c :: cs, τ => by
    show (putBack (τ.set j c) as cs).length = _
    rw [putBack_length (as := as), List.length_set]
theorem putBack_in : ∀ {as : List Arg} {cs τ : List Cell} {i k : Nat} {c : Cell}, (slots as).Nodup → i < τ.length → as[k]? = some (.o i) → cs[k]? = some c → (putBack τ as cs)[i]? = some c
  | [], cs, τ, i, k, c, _, _, h, _ => by simp at h
  | .d d :: as, [], τ, i, k, c, _, _, h, h' => by simp at h'
  | .o d :: as, [], τ, i, k, c, _, _, h, h' => by simp at h'
  | .d d :: as, b :: cs, τ, i, 0, c, _, _, h, _ => by cases h
  | .d d :: as, b :: cs, τ, i, k + 1, c, nd, hi, h, h' => putBack_in (as := as) (k := k) nd hi (by simpa using h) (by simpa using h')
  | .o j :: as, b :: cs, τ, i, 0, c, nd, hi, h, h' => by
    cases h
    cases h'
    show (putBack (τ.set _ _) as cs)[_]? = _
    rw [putBack_out (List.nodup_cons.mp nd).1, List.getElem?_set_self hi]
  | .o j :: as, b :: cs, τ, i, k + 1, c, nd, hi, h, h' => putBack_in (as := as) (k := k) (List.nodup_cons.mp nd).2 (by rw [List.length_set]; exact hi) (by simpa using h) (by simpa using h')
theorem ownArgs_at {τ : List Cell} : ∀ {as : List Arg} {k j : Nat}, OwnArgs τ as → as[k]? = some (.o j) → ∃ p es, τ[j]? = some (Cell.own p es)
  | [], k, j, _, h => by simp at h
  | .d d :: as, 0, j, _, h => by cases h
  | .o i :: as, 0, j, h, e => by cases e; exact h.1
  | .d d :: as, k + 1, j, h, e => ownArgs_at (as := as) (k := k) h (by simpa using e)
  | .o i :: as, k + 1, j, h, e => ownArgs_at (as := as) (k := k) h.2 (by simpa using e)
theorem cellsOf_at {τ : List Cell} : ∀ {as : List Arg} {k j : Nat} {p : Addr} {es : Cont}, as[k]? = some (.o j) → τ[j]? = some (Cell.own p es) → (cellsOf τ as)[k]? = some (.own p es)
  | [], k, j, p, es, h, _ => by simp at h
  | .d d :: as, 0, j, p, es, h, _ => by cases h
  | .o i :: as, 0, j, p, es, h, e => by
    cases h
    show some (τ.getD _ .any) = _
    rw [List.getD_eq_getElem?_getD, e]
    rfl
  | .d d :: as, k + 1, j, p, es, h, e => by
    show (cellsOf τ as)[k]? = _
    exact cellsOf_at (as := as) (by simpa using h) e
  | .o i :: as, k + 1, j, p, es, h, e => by
    show (cellsOf τ as)[k]? = _
    exact cellsOf_at (as := as) (by simpa using h) e
/-- the cells of the arguments describe the values -/
theorem args_slot {F H : Hp} {σ : L2.St} {τ : List Cell} (S : SOk K F H σ τ) : ∀ {vs : List V} {as : List Arg}, ArgsOk K F σ vs as → ∀ (i : Nat) (s : Option V) (c : Cell), (vs.map some)[i]? = some s → (cellsOf τ as)[i]? = some c → SlotOk K F s c
  | _, _, .nil, i, s, c, h, _ => by simp at h
  | _, _, .d (v := v) r t, 0, s, c, h, h' => by
    cases h
    cases h'
    exact ⟨v, rfl, r⟩
  | _, _, .o (v := v) (j := j) e t, 0, s, c, h, h' => by
    cases h
    have h' : τ.getD j .any = c := by simpa [cellsOf] using h'
    rw [List.getD_eq_getElem?_getD] at h'
    cases q : τ[j]? with
    | none => rw [q] at h'; cases h'; exact trivial
    | some c' =>
      rw [q] at h'
      have h' : c' = c := h'
      subst h'
      exact S.slot j _ _ e q
  | _, _, .d r t, i + 1, s, c, h, h' => args_slot S t i s c (by simpa using h) (by simpa [cellsOf] using h')
  | _, _, .o e t, i + 1, s, c, h, h' => args_slot S t i s c (by simpa using h) (by simpa [cellsOf] using h')
abbrev AcW := List Cell → (List Arg → List Cell → Prop) → (Xn → List Cell → Prop) → Prop
structure DAc (K : PySem.W.Frag) (W : WX) (t : TA) (w : AcW) : Prop where
  run : ∀ σ H τ F Q q e, SOk K F H σ τ → w τ q e → (∀ vs as τ' F' H', To K F H σ τ F' H' τ' → ArgsOk K F' σ vs as → q as τ' → Q vs H') → XTo K W F H σ τ e → t σ H Q
def wcNil : AcW := fun τ q _ => q [] τ
def wcCons (we : EW) (wa : AcW) : AcW := fun τ q e => we τ (fun d τ1 => wa τ1 (fun as τ2 => q (.d d :: as) τ2) e) e
def wcOwn (j : Nat) (wa : AcW) : AcW := fun τ q e => (∃ p es, τ[j]? = some (Cell.own p es)) ∧ wa τ (fun as τ2 => q (.o j :: as) τ2) e
theorem dac_nil : DAc K W tNil wcNil := ⟨fun σ H τ F Q q e S hq k _ => k [] [] τ F H (.refl S) .nil hq⟩
theorem dac_cons {t : TE} {u : TA} {w : EW} {v : AcW} (h : DE K W t w) (g : DAc K W u v) : DAc K W (tCons t u) (wcCons w v) := by
  refine ⟨fun σ H τ F Q q e S hw k x => h.run σ H τ F _ _ e S hw (fun z d τ' F' H' t' r h1 => ?_) x⟩
  refine g.run σ H' τ' F' _ _ e t'.ok h1 (fun zs ds τ2 F2 H2 t2 r2 hq => ?_) (x.of t')
  exact k (z :: zs) (.d d :: ds) τ2 F2 H2 (t'.trans t2) (.d (r.mono t2.ext.f) r2) hq
theorem dac_own {j : Nat} {u : TA} {v : AcW} (g : DAc K W u v) : DAc K W (tCons (tVar j) u) (wcOwn j v) := by
  refine ⟨fun σ H τ F Q q e S ⟨⟨p, es, e0⟩, hw⟩ k x => ?_⟩
  obtain ⟨s0, _⟩ := own_at S e0
  refine ⟨.ref p, s0, ?_⟩
  refine g.run σ H τ F _ _ e S hw (fun zs ds τ2 F2 H2 t2 r2 hq => ?_) x
  exact k (.ref p :: zs) (.o j :: ds) τ2 F2 H2 t2 (.o s0 r2) hq
def wCall (n : Nat) (fs : FS) (wa : AcW) : EW := fun τ q e => wa τ (fun as τ' => as.length = n ∧ (slots as).Nodup ∧ OwnArgs τ' as ∧ fs (cellsOf τ' as) (fun d cs' => q d (putBack τ' as cs')) (fun x cs' => e x (putBack τ' as cs'))) e
theorem call_to {F H F' H' F0 H0 : Hp} {σ : L2.St} {τ τ0 cs' : List Cell} {as : List Arg} (t : To K F0 H0 σ τ0 F H τ) (nd : (slots as).Nodup) (oa : OwnArgs τ as) (x : Ext (cellsOf τ as) F H F' H') (sub : Same F' H') (c : CsOk K F' H' (cellsOf τ as) cs') :
    To K F0 H0 σ τ0 F' H' (putBack τ as cs') := by
  -- each slot: as it was, or an own list that was handed in
  have alt : ∀ i, (i ∉ slots as ∧ (putBack τ as cs')[i]? = τ[i]?) ∨ (∃ p ds ds', τ[i]? = some (.own p ds) ∧ (putBack τ as cs')[i]? = some (.own p ds') ∧ F' p = none ∧ ∃ vs, H' p = some vs ∧ CRep K F' vs ds') := fun i => by
    by_cases h : i ∈ slots as
    · obtain ⟨k, e⟩ := slots_mem h
      obtain ⟨p, es, e1⟩ := ownArgs_at oa e
      obtain ⟨ds', e2, e3⟩ := c.2 k p es (cellsOf_at e e1)
      exact .inr ⟨p, es, ds', e1, putBack_in nd (List.getElem?_eq_some_iff.mp e1).1 e e2, e3⟩
    · exact .inl ⟨h, putBack_out h⟩
  have back : ∀ {i : Nat} {p : Addr} {ds' : Cont}, (putBack τ as cs')[i]? = some (.own p ds') → ∃ ds, τ[i]? = some (.own p ds) := fun {i p ds'} h => by
    rcases alt i with ⟨_, e⟩ | ⟨q, ds, ds2, e1, e2, _⟩
    · exact ⟨ds', by rw [← e]; exact h⟩
    · rw [h] at e2
      cases e2
      exact ⟨ds, e1⟩
  have cown : ∀ {p : Addr}, IsOwn (cellsOf τ as) p → IsOwn τ p := fun {p} ⟨k, ds, e⟩ => by
    obtain ⟨j, _, e2⟩ := cellsOf_own e
    exact ⟨j, ds, e2⟩
  have xt : Ext τ F H F' H' := by
    refine ⟨x.f, fun a o h => ?_, fun a o h z nt => x.keep a o h (fun q => z (cown q)) nt, x.there, x.tabs⟩
    rcases x.new a o h with z | z | z
    · exact .inl z
    · exact .inr (.inl z)
    · exact .inr (.inr (cown z))
  have gr : Grow τ H (putBack τ as cs') := fun p ⟨i, ds, h⟩ => by
    obtain ⟨ds0, e⟩ := back h
    exact .inl ⟨i, ds0, e⟩
  refine To.trans t (σ' := σ) ⟨xt, gr, ⟨xt.tabs t.ok.tabs, sub, by rw [putBack_length]; exact t.ok.len, fun i s cc h1 h2 => ?_, fun i p ds h => ?_, fun i j p ds es h1 h2 => ?_⟩⟩
  · rcases alt i with ⟨_, e⟩ | ⟨q, ds, ds2, e1, e2, _⟩
    · rw [e] at h2
      exact (t.ok.slot i s cc h1 h2).mono x.f
    · rw [h2] at e2
      cases e2
      exact (show s = some (.ref q) from t.ok.slot i s _ h1 e1)
  · rcases alt i with ⟨hn, e⟩ | ⟨q, ds1, ds2, e1, e2, e3⟩
    · rw [e] at h
      obtain ⟨f1, vs, f2, f3⟩ := t.ok.own i p ds h
      have nown : ¬ IsOwn (cellsOf τ as) p := fun ⟨k, es, z⟩ => by
        obtain ⟨j, z1, z2⟩ := cellsOf_own z
        rw [t.ok.inj i j p ds es h z2] at hn
        exact hn (mem_slots z1)
      refine ⟨?_, vs, x.keep p _ f2 nown f3.nt, f3.mono x.f⟩
      cases q : F' p with
      | none => rfl
      | some u =>
        rcases x.new p u q with z | z | z
        · rw [f1] at z; cases z
        · exact (z _ f2 f3.nt).elim
        · exact absurd z nown
    · rw [h] at e2
      cases e2
      exact e3
  · obtain ⟨d1, z1⟩ := back h1
    obtain ⟨d2, z2⟩ := back h2
    exact t.ok.inj i j p d1 d2 z1 z2
theorem de_call {n : Nat} {fs : FS} {t : TA} {w : AcW} (h : DAc K W t w) : DE K W (tCallS (spOf K n fs) (L2.WE W) t) (wCall n fs w) := by
  refine ⟨fun σ H τ F Q q e S hw k x => h.run σ H τ F _ _ e S hw (fun vs as τ' F' H' t' a ⟨hl, nd, oa, hf⟩ => ?_) x⟩
  refine ⟨by rw [a.length]; exact hl, F', cellsOf τ' as, _, _, ⟨t'.ok.tabs, t'.ok.sub, by rw [List.length_map, cellsOf_length, a.length], args_slot t'.ok a, fun i p ds e0 => ?_, fun i j p ds es e1 e2 => ?_⟩, hf, fun v d cs' F2 H2 x2 s2 c2 r2 hq => ?_, fun y cls dx cs' F2 H2 x2 s2 c2 r2 hq => ?_⟩
  · obtain ⟨j, _, e2⟩ := cellsOf_own e0
    exact t'.ok.own j p ds e2
  · obtain ⟨k1, a1, b1⟩ := cellsOf_own e1
    obtain ⟨k2, a2, b2⟩ := cellsOf_own e2
    have ek := t'.ok.inj k1 k2 p ds es b1 b2
    subst ek
    exact slot_inj nd a1 a2
  · exact k v d _ F2 H2 (call_to t' nd oa x2 s2 c2) r2 hq
  · exact x y cls dx _ F2 H2 (call_to t' nd oa x2 s2 c2) r2 hq
/-- x = f(..), f hands back a new list: it becomes an own one -/
def wCallOwn (i n : Nat) (fs : FSF) (wa : AcW) : SW := fun E τ => wa τ (fun as τ' => as.length = n ∧ (slots as).Nodup ∧ OwnArgs τ' as ∧ fs (cellsOf τ' as) (fun ds cs' => ∀ p, E.nx ((putBack τ' as cs').set i (.own p (.lst ds)))) (fun x cs' => E.ex x (putBack τ' as cs'))) E.ex
theorem pre_call {F H F0 H0 : Hp} {σ : L2.St} {τ τ0 : List Cell} {vs : List V} {as : List Arg} (t : To K F0 H0 σ τ0 F H τ) (a : ArgsOk K F σ vs as) (nd : (slots as).Nodup) : SOk K F H (vs.map some) (cellsOf τ as) := by
  refine ⟨t.ok.tabs, t.ok.sub, by rw [List.length_map, cellsOf_length, a.length], args_slot t.ok a, fun i p ds e0 => ?_, fun i j p ds es e1 e2 => ?_⟩
  · obtain ⟨j, _, e2⟩ := cellsOf_own e0
    exact t.ok.own j p ds e2
  · obtain ⟨k1, a1, b1⟩ := cellsOf_own e1
    obtain ⟨k2, a2, b2⟩ := cellsOf_own e2
    have ek := t.ok.inj k1 k2 p ds es b1 b2
    subst ek
    exact slot_inj nd a1 a2
theorem ds_callOwn {i n : Nat} {fs : FSF} {t : TA} {w : AcW} (h : DAc K W t w) : DS K W (tAsg (tCallS (spFr K n fs) (L2.WE W) t) (gName i)) (wCallOwn i n fs w) := by
  refine ⟨fun σ H τ F Dn E S hw o => h.run σ H τ F _ _ E.ex S hw (fun vs as τ' F' H' t' a ⟨hl, nd, oa, hf⟩ => ?_) o.xto⟩
  refine ⟨by rw [a.length]; exact hl, F', cellsOf τ' as, _, _, pre_call t' a nd, hf, fun p us ds cs' F2 H2 x2 s2 c2 f1 h1 h2 r2 hq => ?_, fun y cls dx cs' F2 H2 x2 s2 c2 r2 hq => ?_⟩
  · have T := call_to t' nd oa x2 s2 c2
    have nO : ¬ IsOwn (putBack τ' as cs') p := fun z => by
      have z' : IsOwn τ' p := by
        obtain ⟨j, es, e⟩ := z
        by_cases hj : j ∈ slots as
        · obtain ⟨kk, ek⟩ := slots_mem hj
          obtain ⟨q, es', e1⟩ := ownArgs_at oa ek
          obtain ⟨ds', e2, e3⟩ := c2.2 kk q es' (cellsOf_at ek e1)
          rw [putBack_in nd (List.getElem?_eq_some_iff.mp e1).1 ek e2] at e
          cases e
          exact ⟨j, es', e1⟩
        · rw [putBack_out hj] at e
          exact ⟨j, es, e⟩
      obtain ⟨j, es, e⟩ := z'
      obtain ⟨_, ws, e2, e3⟩ := t'.ok.own j p es e
      exact h1 _ e2 e3.nt
    have S2 := T.ok.setOwn (i := i) f1 h2 (.lst r2) nO
    refine o.nx _ _ F2 H2 ⟨T.ext, fun q ⟨j, es, e⟩ => ?_, S2⟩ (hq p)
    by_cases ej : i = j
    · subst ej
      by_cases hl : i < (putBack τ' as cs').length
      · rw [List.getElem?_set_self hl] at e
        cases e
        exact .inr (t'.back h1)
      · rw [List.set_eq_of_length_le (Nat.le_of_not_lt hl)] at e
        exact T.grow q ⟨_, _, e⟩
    · rw [List.getElem?_set_ne ej] at e
      exact T.grow q ⟨_, _, e⟩
  · exact o.ex σ y cls dx _ F2 H2 (call_to t' nd oa x2 s2 c2) r2 hq
end
end L3

/-! ## more operations -/
namespace L3
open PySem PySem.Spec PyProof.Rows L2
variable [TB : TabT]
section
variable {K : PySem.W.Frag} {W : WX}
theorem de_ty {n : String} : DE K W (tC (.ty n)) (wC (.ty n)) := de_c fun _ => .ty n
def wNeg (we : EW) : EW := fun τ q e => we τ (fun d τ' => ∃ i, d = .int i ∧ q (.int (-i)) τ') e
theorem de_neg {t : TE} {w : EW} (h : DE K W t w) : DE K W (tUn (rU fun i => .int (-i)) t) (wNeg w) := by
  refine ⟨fun σ H τ F Q q e S hw k x => h.run σ H τ F _ _ e S hw (fun v d τ' F' H' t' r ⟨i, e', hq⟩ => ?_) x⟩
  subst e'
  exact ⟨i, r.int_of, k _ _ τ' F' H' t' (.int _) hq⟩
/-- plain things, compared by their values -/
def scD : D → Option V
  | .non => some .non | .bl b => some (.bl b) | .int i => some (.int i) | .str x => some (.str x) | _ => none
theorem sc_of {F : Hp} {v u : V} {d : D} (r : Rep K F v d) (h : scD d = some u) : v = u := by
  cases r <;> cases h <;> rfl
def gEq : D → D → (D → Prop) → Prop := fun x y q => ∃ v u, scD x = some v ∧ scD y = some u ∧ scal v u = true ∧ q (.bl (decide (v = u)))
def gNe : D → D → (D → Prop) → Prop := fun x y q => ∃ v u, scD x = some v ∧ scD y = some u ∧ scal v u = true ∧ q (.bl (!decide (v = u)))
theorem o_eq : Op2 K rEq gEq := by
  rintro F H x y d1 d2 q Q s r1 r2 ⟨v, u, e1, e2, hs, hq⟩ k
  rw [sc_of r1 e1, sc_of r2 e2]
  exact ⟨hs, k _ _ F H (.refl _ _ _) s (.bl _) hq⟩
theorem o_ne : Op2 K rNe gNe := by
  rintro F H x y d1 d2 q Q s r1 r2 ⟨v, u, e1, e2, hs, hq⟩ k
  rw [sc_of r1 e1, sc_of r2 e2]
  exact ⟨hs, k _ _ F H (.refl _ _ _) s (.bl _) hq⟩
def isNonD : D → Bool | .non => true | _ => false
theorem non_iff {F : Hp} {v : V} {d : D} (r : Rep K F v d) : decide (v = .non) = isNonD d := by
  cases r <;> simp [isNonD]
def rIsN : R2 := fun x y H Q => y = .non ∧ Q (.bl (decide (x = .non))) H
def rNotN : R2 := fun x y H Q => y = .non ∧ Q (.bl (!decide (x = .non))) H
def gIsN : D → D → (D → Prop) → Prop := fun x y q => y = .non ∧ q (.bl (isNonD x))
def gNotN : D → D → (D → Prop) → Prop := fun x y q => y = .non ∧ q (.bl (!isNonD x))
theorem o_isN : Op2 K rIsN gIsN := by
  rintro F H x y d1 d2 q Q s r1 r2 ⟨rfl, hq⟩ k
  cases r2
  exact ⟨rfl, by rw [non_iff r1]; exact k _ _ F H (.refl _ _ _) s (.bl _) hq⟩
theorem o_notN : Op2 K rNotN gNotN := by
  rintro F H x y d1 d2 q Q s r1 r2 ⟨rfl, hq⟩ k
  cases r2
  exact ⟨rfl, by rw [non_iff r1]; exact k _ _ F H (.refl _ _ _) s (.bl _) hq⟩
mutual
def toPy : D → Option PyData
  | .non => some .none | .bl b => some (.bool b) | .int i => some (.int i) | .str x => some (.str x)
  | .tup ds => (toPys ds).map .tuple | .lst ds => (toPys ds).map .list | .fl ds => (toPys ds).map .list | _ => none
def toPys : List D → Option (List PyData)
  | [] => some []
  | d :: ds => (toPy d).bind fun p => (toPys ds).map fun ps => p :: ps
end
mutual
theorem dp_of {F : Hp} : ∀ {d : D} {v : V} {p : PyData}, Rep K F v d → toPy d = some p → Dp K F v p
  | .non, _, _, r, h => by cases r; cases h; exact .non
  | .bl b, _, _, r, h => by cases r; cases h; exact .bl b
  | .int b, _, _, r, h => by cases r; cases h; exact .int b
  | .str b, _, _, r, h => by cases r; cases h; exact .str b
  | .tup ds, _, p, r, h => by
    cases r with
    | tup hs r =>
      have h : (toPys ds).map PyData.tuple = some p := by rw [← h]; rfl
      cases e : toPys ds with
      | none => rw [e] at h; cases h
      | some ps => rw [e] at h; cases h; exact .tup hs (dps_of r e)
  | .lst ds, _, p, r, h => by
    cases r with
    | lst hs r =>
      have h : (toPys ds).map PyData.list = some p := by rw [← h]; rfl
      cases e : toPys ds with
      | none => rw [e] at h; cases h
      | some ps => rw [e] at h; cases h; exact .lst (.inl (.inl hs)) (dps_of r e)
  | .fl ds, _, p, r, h => by
    cases r with
    | fl hs r =>
      have h : (toPys ds).map PyData.list = some p := by rw [← h]; rfl
      cases e : toPys ds with
      | none => rw [e] at h; cases h
      | some ps => rw [e] at h; cases h; exact .lst hs (dps_of r e)
  | .ty n, _, _, r, h => by cases h
  | .oth n, _, _, r, h => by cases h
  | .ins c n, _, _, r, h => by cases h
theorem dps_of {F : Hp} : ∀ {ds : List D} {vs : List V} {ps : List PyData}, Reps K F vs ds → toPys ds = some ps → DpAll K F vs ps
  | [], _, _, r, h => by cases r; cases h; exact .nil
  | d :: ds, _, ps, r, h => by
    cases r with
    | cons r1 r2 =>
      have h : ((toPy d).bind fun p => (toPys ds).map fun ps => p :: ps) = some ps := by rw [← h]; rfl
      cases e : toPy d with
      | none => rw [e] at h; cases h
      | some p =>
        rw [e] at h
        cases e2 : toPys ds with
        | none => rw [e2] at h; cases h
        | some qs => rw [e2] at h; cases h; exact .cons (dp_of r1 e) (dps_of r2 e2)
end
mutual
theorem Dp_mono {F F' : Hp} (s : Same F F') : ∀ {v : V} {p : PyData}, Dp K F v p → Dp K F' v p
  | _, _, .non => .non
  | _, _, .bl b => .bl b
  | _, _, .int i => .int i
  | _, _, .str x => .str x
  | _, _, .tup h r => .tup (SqT_mono s h) (DpAll_mono s r)
  | _, _, .lst h r => .lst (s.seq h) (DpAll_mono s r)
theorem DpAll_mono {F F' : Hp} (s : Same F F') : ∀ {vs : List V} {ps : List PyData}, DpAll K F vs ps → DpAll K F' vs ps
  | _, _, .nil => .nil
  | _, _, .cons h r => .cons (Dp_mono s h) (DpAll_mono s r)
end
/-- things of any depth, compared by their values -/
def gEqD : D → D → (D → Prop) → Prop := fun x y q => ∃ v u, toPy x = some v ∧ toPy y = some u ∧ SeqAt.shaped v = true ∧ SeqAt.shaped u = true ∧ q (.bl (PyData.eqv v u))
def gNeD : D → D → (D → Prop) → Prop := fun x y q => ∃ v u, toPy x = some v ∧ toPy y = some u ∧ SeqAt.shaped v = true ∧ SeqAt.shaped u = true ∧ q (.bl (!PyData.eqv v u))
theorem o_eqD : Op2 K (rEqD K) gEqD := by
  rintro F H x y d1 d2 q Q s r1 r2 ⟨v, u, e1, e2, h1, h2, hq⟩ k
  exact ⟨v, u, Dp_mono s (dp_of r1 e1), Dp_mono s (dp_of r2 e2), h1, h2, k _ _ F H (.refl _ _ _) s (.bl _) hq⟩
theorem o_neD : Op2 K (rNeD K) gNeD := by
  rintro F H x y d1 d2 q Q s r1 r2 ⟨v, u, e1, e2, h1, h2, hq⟩ k
  exact ⟨v, u, Dp_mono s (dp_of r1 e1), Dp_mono s (dp_of r2 e2), h1, h2, k _ _ F H (.refl _ _ _) s (.bl _) hq⟩
end
end L3

/-! ## names for the generated texts -/
namespace L3
open PySem PySem.Spec PyProof.Rows L2
variable [TB : TabT]
abbrev rAddI : R2 := rI0 fun i j => .int (i + j)
abbrev rSubI : R2 := rI0 fun i j => .int (i - j)
abbrev rLtI : R2 := rI0 fun i j => .bl (decide (i < j))
abbrev rLeI : R2 := rI0 fun i j => .bl (decide (i ≤ j))
abbrev rGtI : R2 := rI0 fun i j => .bl (decide (j < i))
abbrev rGeI : R2 := rI0 fun i j => .bl (decide (j ≤ i))
abbrev rNegI : V → Hp → VK → Prop := rU fun i => .int (-i)
def CMulA (i j : Int) : Prop := CMul i j ∨ CMulW i j
abbrev rMulA : R2 := rI CMulA fun i j => .int (i * j)
abbrev rDivW : R2 := rI CDivW fun i j => .int (i / j)
abbrev rModI : R2 := rI (fun _ j => 0 < j) fun i j => .int (i % j)
abbrev rPowI : R2 := rI CPow fun i j => .int (i ^ j.toNat)
theorem op_mulA {X : Cx} : OpR X (binaryOp .Mult) rMulA := opI fun _ _ _ _ _ _ _ hc q => mul_int q (hc.elim (fun z => z.ok) fun z => z.ok)
abbrev gAddI := g2I fun i j => .int (i + j)
abbrev gSubI := g2I fun i j => .int (i - j)
abbrev gLtI := g2I fun i j => .bl (decide (i < j))
abbrev gLeI := g2I fun i j => .bl (decide (i ≤ j))
abbrev gGtI := g2I fun i j => .bl (decide (j < i))
abbrev gGeI := g2I fun i j => .bl (decide (j ≤ i))
abbrev gMulA := g2IC CMulA fun i j => .int (i * j)
abbrev gDivW := g2IC CDivW fun i j => .int (i / j)
abbrev gModI := g2IC (fun _ j => 0 < j) fun i j => .int (i % j)
abbrev gPowI := g2IC CPow fun i j => .int (i ^ j.toNat)
/-- what is never reached -/
def wNever : SW := fun _ _ => False
theorem ps_neverS {X : Cx} {sts : List Stmt} : PSs X sts tNever := ⟨fun _ _ _ _ _ _ h => h.elim⟩
theorem ps_never1 {X : Cx} {st : Stmt} : PS X st tNever := ⟨fun _ _ _ _ _ _ h => h.elim⟩
theorem ds_neverS {K : PySem.W.Frag} {W : WX} : DS K W tNever wNever := ⟨fun _ _ _ _ _ _ _ h _ => h.elim⟩
section
variable {K : PySem.W.Frag}
theorem o_mulA : Op2 K rMulA gMulA := op2IC fun _ _ _ => .int _
theorem o_fdivW : Op2 K rDivW gDivW := op2IC fun _ _ _ => .int _
end
def PureD (np m : Nat) (fs : FS) (wb : SW) : Prop := ∀ cs q e, cs.length = np → fs cs q e →
  wb ⟨fun τ => Keeps cs τ ∧ q .non (ends cs τ), fun d τ => Keeps cs τ ∧ q d (ends cs τ), fun _ _ => False, fun _ => False, fun _ => False, fun x τ => Keeps cs τ ∧ e x (ends cs τ)⟩ (cs ++ List.replicate m .any)
def PureF (np m : Nat) (fs : FSF) (wb : SW) : Prop := ∀ cs q e, cs.length = np → fs cs q e →
  wb ⟨fun _ => False, fun _ _ => False, fun ds τ => Keeps cs τ ∧ q ds (ends cs τ), fun _ => False, fun _ => False, fun x τ => Keeps cs τ ∧ e x (ends cs τ)⟩ (cs ++ List.replicate m .any)
theorem cmul_l {i j : Int} (h1 : -(2 ^ 64) < i) (h2 : i < 2 ^ 64) : CMulA i j := .inl (.inl ⟨h1, h2⟩)
theorem cmul_r {i j : Int} (h1 : -(2 ^ 64) < j) (h2 : j < 2 ^ 64) : CMulA i j := .inl (.inr ⟨h1, h2⟩)
end L3

/-! ## words for the pure part -/
namespace L3
open PySem PySem.Spec PyProof.Rows L2
variable [TB : TabT]
section
variable {K : PySem.W.Frag}
def isiD : D → String → Bool
  | .bl _, n => n == "bool" || n == "int"
  | .int _, n => n == "int"
  | .str _, n => n == "str"
  | .tup _, n => n == "tuple"
  | .lst _, n => n == "list"
  | .fl _, n => n == "list"
  | _, _ => false
abbrev kinds : List String := ["int", "bool", "str", "tuple", "list"]
mutual
def OkD (K : PySem.W.Frag) : D → Prop
  | .ty _ => False
  | .ins _ _ => False
  | .oth t => ∀ n ∈ kinds, PySem.W.kitOne K t (.type n) = some false
  | .tup ds => OkDs K ds
  | .lst ds => OkDs K ds
  | .fl ds => OkDs K ds
  | .non => True
  | .bl _ => True
  | .int _ => True
  | .str _ => True
def OkDs (K : PySem.W.Frag) : List D → Prop
  | [] => True
  | d :: ds => OkD K d ∧ OkDs K ds
end
theorem okDs_mem : ∀ {ds : List D} {d : D}, OkDs K ds → d ∈ ds → OkD K d
  | [], d, _, h => by simp at h
  | x :: ds, d, h, hd => by
    have h : OkD K x ∧ OkDs K ds := by unfold OkDs at h; exact h
    rcases List.mem_cons.mp hd with rfl | hd
    · exact h.1
    · exact okDs_mem h.2 hd
theorem okDs_of : ∀ {ds : List D}, (∀ d ∈ ds, OkD K d) → OkDs K ds
  | [], _ => by unfold OkDs; trivial
  | x :: ds, h => by
    unfold OkDs
    exact ⟨h x (List.mem_cons_self ..), okDs_of fun d hd => h d (List.mem_cons_of_mem _ hd)⟩
theorem okTup {ds : List D} (h : OkD K (.tup ds)) {d : D} (m : d ∈ ds) : OkD K d := okDs_mem (by unfold OkD at h; exact h) m
theorem kit_tbl : ∀ a ∈ ["NoneType", "bool", "int", "str", "tuple", "list"], ∀ n ∈ kinds, kitB a n = some ((a == n) || (a == "bool" && n == "int")) := by decide +kernel
theorem isi_ok {d : D} {n : String} (h : OkD K d) (hn : n ∈ kinds) : noTy d ∧ PySem.W.kitOne K (tyD d) (.type n) = some (isiD d n) := by
  have five : n = "int" ∨ n = "bool" ∨ n = "str" ∨ n = "tuple" ∨ n = "list" := by simpa [kinds] using hn
  have t : ∀ a ∈ ["NoneType", "bool", "int", "str", "tuple", "list"], PySem.W.kitOne K (.type a) (.type n) = some ((a == n) || (a == "bool" && n == "int")) := fun a ha => kit_ty (kit_tbl a ha n hn)
  cases d with
  | ty _ => unfold OkD at h; exact h.elim
  | ins _ _ => unfold OkD at h; exact h.elim
  | oth t => unfold OkD at h; exact ⟨trivial, h n hn⟩
  | non => refine ⟨trivial, (t "NoneType" (by simp)).trans ?_⟩; rcases five with rfl | rfl | rfl | rfl | rfl <;> simp [isiD]
  | bl _ => refine ⟨trivial, (t "bool" (by simp)).trans ?_⟩; rcases five with rfl | rfl | rfl | rfl | rfl <;> simp [isiD]
  | int _ => refine ⟨trivial, (t "int" (by simp)).trans ?_⟩; rcases five with rfl | rfl | rfl | rfl | rfl <;> simp [isiD]
  | str _ => refine ⟨trivial, (t "str" (by simp)).trans ?_⟩; rcases five with rfl | rfl | rfl | rfl | rfl <;> simp [isiD]
  | tup _ => refine ⟨trivial, (t "tuple" (by simp)).trans ?_⟩; rcases five with rfl | rfl | rfl | rfl | rfl <;> simp [isiD]
  | lst _ => refine ⟨trivial, (t "list" (by simp)).trans ?_⟩; rcases five with rfl | rfl | rfl | rfl | rfl <;> simp [isiD]
  | fl _ => refine ⟨trivial, (t "list" (by simp)).trans ?_⟩; rcases five with rfl | rfl | rfl | rfl | rfl <;> simp [isiD]
/-- isinstance(d, n) -/
theorem gIsi_ok {d : D} {n : String} {q : D → Prop} (h : OkD K d) (hn : n ∈ kinds) (hq : q (.bl (isiD d n))) : gIsi K [d, .ty n] q :=
  ⟨d, n, _, rfl, (isi_ok h hn).1, (isi_ok h hn).2, hq⟩
/-- a comprehension that maps what passes the test -/
theorem lc_fm {ds : List D} {τ1 : List Cell} {wg : GW} {wt : TW} {we : EW} {vs : List Nat} {q : D → List Cell → Prop} (f : D → D) (p : D → Bool) (hn : ds.length ≤ 1000)
    (hs : ∀ d ∈ ds, ∀ (k1 : D → List Cell → Prop) (k2 : List Cell → Prop), (p d = true → ∀ τ5, wipeD τ5 vs = wipeD τ1 vs → k1 (f d) τ5) → (p d = false → ∀ τ5, wipeD τ5 vs = wipeD τ1 vs → k2 τ5) →
      wg d (wipeD τ1 vs) fun τ3 => wt τ3 (fun b τ4 => (b = true → we τ4 k1 noX) ∧ (b = false → k2 τ4)) noX)
    (hq : q (.lst ((ds.filter p).map f)) (wipeD τ1 vs)) :
    ds.length ≤ 1000 ∧ ∃ inv : Nat → List D → List Cell → Prop, inv 0 [] (wipeD τ1 vs) ∧
    (∀ i d acc τ2, ds[i]? = some d → inv i acc τ2 → acc.length ≤ i → wg d τ2 fun τ3 => wt τ3 (fun b τ4 => (b = true → we τ4 (fun y τ5 => inv (i + 1) (acc ++ [y]) (wipeD τ5 vs)) noX) ∧ (b = false → inv (i + 1) acc (wipeD τ4 vs))) noX) ∧
    ∀ acc τ2, inv ds.length acc (wipeD τ2 vs) → acc.length ≤ ds.length → q (.lst acc) (wipeD τ2 vs) := by
  refine ⟨hn, fun i acc τ => acc = ((ds.take i).filter p).map f ∧ τ = wipeD τ1 vs, ⟨by simp, rfl⟩, ?_, ?_⟩
  · rintro i d acc τ2 hd ⟨rfl, rfl⟩ _
    have tk : ds.take (i + 1) = ds.take i ++ [d] := by
      rw [List.take_add_one, hd]
      rfl
    refine hs d (List.mem_of_getElem? hd) _ _ (fun hp τ5 e => ⟨?_, e⟩) (fun hp τ5 e => ⟨?_, e⟩)
    · rw [tk, List.filter_append, List.map_append]
      simp [hp]
    · rw [tk, List.filter_append, List.map_append]
      simp [hp]
  · rintro acc τ2 ⟨rfl, e⟩ _
    rw [e, List.take_length]
    exact hq
end
end L3
namespace L3
open PySem PySem.Spec PyProof.Rows L2
variable [TB : TabT]
theorem gIsi_iff {K : PySem.W.Frag} {d : D} {n : String} {q : D → Prop} (h : OkD K d) (hn : n ∈ kinds) : gIsi K [d, .ty n] q ↔ q (.bl (isiD d n)) := by
  refine ⟨fun ⟨d', n', b, e, _, e2, hq⟩ => ?_, gIsi_ok h hn⟩
  cases e
  rw [(isi_ok h hn).2] at e2
  cases e2
  exact hq
end L3
namespace L3
open PySem PySem.Spec PyProof.Rows L2
variable [TB : TabT]
theorem atI_nat' {α : Type} {l : List α} {k : Nat} {x : α} (h : l[k]? = some x) : atI l (k : Int) = some x := by
  have hk := (List.getElem?_eq_some_iff.mp h).1
  unfold atI ixN
  rw [if_pos (Int.natCast_nonneg k), if_pos (by omega)]
  exact h
theorem atI0 {α : Type} {x : α} {r : List α} : atI (x :: r) 0 = some x := atI_nat' (k := 0) rfl
theorem atI1 {α : Type} {x y : α} {r : List α} : atI (x :: y :: r) 1 = some y := atI_nat' (k := 1) rfl
theorem atI2 {α : Type} {x y z : α} {r : List α} : atI (x :: y :: z :: r) 2 = some z := atI_nat' (k := 2) rfl
theorem atI3 {α : Type} {x y z a : α} {r : List α} : atI (x :: y :: z :: a :: r) 3 = some a := atI_nat' (k := 3) rfl
theorem atI4 {α : Type} {x y z a b : α} {r : List α} : atI (x :: y :: z :: a :: b :: r) 4 = some b := atI_nat' (k := 4) rfl
theorem ixN51 : ixN 5 1 = some 1 := by decide
theorem ixN52 : ixN 5 2 = some 2 := by decide
theorem ixN53 : ixN 5 3 = some 3 := by decide
/-- where the law's draws stand -/
def SrcC (c : Cont) : Prop := ∃ (ns : List Int) (i r t f : Int), c = .lst [.lst (ns.map D.int), .int i, .int r, .int t, .int f] ∧ 0 ≤ i ∧ 0 ≤ r
end L3
namespace L3
theorem seqD_t {ds : List D} : seqD (.tup ds) = some ds := rfl
theorem seqD_l {ds : List D} : seqD (.lst ds) = some ds := rfl
theorem seqD_f {ds : List D} : seqD (.fl ds) = some ds := rfl
end L3
namespace L3
open PySem PySem.Spec PyProof.Rows L2
variable [TB : TabT]
theorem atIm1_2 {α : Type} {x y : α} : atI [x, y] (-1) = some y := rfl
theorem atIm1_3 {α : Type} {x y z : α} : atI [x, y, z] (-1) = some z := rfl
theorem gEqD_refl {d : D} {p : PyData} {q : D → Prop} (h : toPy d = some p) (hs : SeqAt.shaped p = true) (hq : q (.bl true)) : gEqD d d q :=
  ⟨p, p, h, h, hs, hs, by rw [SeqAt.eqv_refl _ (SeqAt.canLay_of_shaped hs)]; exact hq⟩
theorem gNeD_refl {d : D} {p : PyData} {q : D → Prop} (h : toPy d = some p) (hs : SeqAt.shaped p = true) (hq : q (.bl false)) : gNeD d d q :=
  ⟨p, p, h, h, hs, hs, by rw [SeqAt.eqv_refl _ (SeqAt.canLay_of_shaped hs)]; exact hq⟩
end L3

/-! ## an own error whose __init__ does nothing, made without arguments -/
namespace L3
open PySem PySem.Spec PyProof.Rows L2
variable [TB : TabT]
section
open PySem.W PySem.Calls PySem.HandSPX
def xA (p1 : Pos) : Arguments := { posonlyargs := [], args := [{ arg := "self", annotation := none, pos := p1 }], vararg := none, kwonlyargs := [], kw_defaults := [], kwarg := none, defaults := [] }
def xB (q1 : Pos) : List Stmt := [.Pass q1]
def xS : Scope := { kind := .function, names := [(PySem.Str.ofString "self", .local)], isGenerator := false, isCoroutine := false, more := [] }
structure Exc0 (K : Frag) (mg : Str → Option Value) (x qn : Str) (C fI : Addr) : Prop where
  gC : mg x = some (.ref C)
  cls : ∃ nm q N bs bm sn sub ab col dd k0 k1 k2 k3 k5, K.lookup C = some (excClassObj nm q C N bs bm true sn sub ab col dd k0 k1 k2 k3 k5 "ValueError.__new__") ∧ refsVE bm = true
  iC : findIn K (.ref C) "__init__" = some (some (.ref fI))
  tC : typeIn K (.ref fI) = some (.type "function")
  kC : keepIn K (.ref C) = true
  exC : subIn K (.ref C) (.type "BaseException") = some true
  tyC : typeIn K (.ref C) = some (.type "type")
  fn : ∃ (oc : Value) (od : Option Addr) (doc pm : Value) (an : Option Addr) (cdv ct : Value) (osl : Array (Option Value)) (p1 q1 : Pos),
    K.lookup fI = some ⟨oc, od, .func (fnOf "__init__" qn (xA p1) (xB q1) xS .none .none doc pm an cdv ct), osl⟩ ∧ codeIn K cdv qn = true
variable {prog : Program} {w : World} {A : Around} {E : Value → Shared → Prop} {R : Result → Shared → Prop} {s : Shared} {K : Frag} {mg : Str → Option Value} {C fI : Addr} {x qn : Str}
theorem exc0_init (T : Exc0 K mg x qn C fI) {e : Addr} (X : K.In s.heap) (hlim : s.heap.NoLimit) (hroom : A.depth < recursionLimit)
    (hq : ∀ h' tk, (∀ b o, s.heap.get? b = some o → h'.get? b = some o) → R (.ok (.ret .none)) { s with heap := h', toks := tk }) :
    codeAny (model prog w) A (.call (.ref fI) ⟨[.ref e], []⟩) R s := by
  obtain ⟨oc, od, doc, pm, an, cdv, ct, osl, p1, q1, ho, hcd⟩ := T.fn
  refine Att.call_fn (binds := [("self", .ref e)]) X hlim ho hcd hroom (BindsTo.of_eq (by first | rfl | with_unfolding_all rfl)) (by first | rfl | decide | with_unfolding_all rfl) (fun s₁ IC => ?_) rfl rfl rfl
  obtain ⟨h₁, tk₁, rfl⟩ := IC.toInCall.same
  have k : ∀ b o, s.heap.get? b = some o → h₁.get? b = some o := IC.toInCall.keep
  show wpAny _ _ (execs _ _) _ _ _
  refine wpAny_execs_cons (wpAny_Pass ?_)
  show wpAny _ _ (execs _ _) _ _ _
  exact wpAny_execs_nil (hq h₁ tk₁ k)
theorem exc0_made (T : Exc0 K mg x qn C fI) (X : K.In s.heap) (hlim : s.heap.NoLimit) (hroom : A.depth + 1 < recursionLimit)
    (hq : ∀ h' tk e, (∀ b o, s.heap.get? b = some o → h'.get? b = some o) → s.heap.objs.size ≤ e → (∃ t0, h'.get? e = some (excO C t0)) → R (.ok (.ret (.ref e))) { s with heap := h', toks := tk }) :
    codeAny (model prog w) A (.call (.ref C) ⟨[], []⟩) R s := by
  obtain ⟨nm, q, N, bs, bm, sn, sub, ab, col, dd, k0, k1, k2, k3, k5, hC, hbm⟩ := T.cls
  obtain ⟨hp, g, dr, tk, os⟩ := s
  have k : ∀ b o, hp.get? b = some o → ((hp.push (kdv_tup [])).push (excO C hp.objs.size)).get? b = some o := fun b o e => Heap.get?_push_of_some _ (Heap.get?_push_of_some _ e)
  have hget : ((hp.push (kdv_tup [])).push (excO C hp.objs.size)).get? (hp.objs.size + 1) = some (excO C hp.objs.size) := by heap_get
  refine call_own F.excBase_ValueError (fun X => refsVE_contains X bm hbm) (X _ _ hC) (looks_findIn X T.iC) (fun self => bind_fn X self T.tC) (Nat.zero_le _) ?_
  refine exc0_init (s := ⟨(hp.push (kdv_tup [])).push (excO C hp.objs.size), g, dr, tk, os⟩) T (X.keeps k) (hlim.keeps k) ?_ fun h' tk' k' => ?_
  · show A.depth + 1 < recursionLimit
    exact hroom
  · exact ⟨rfl, hq h' tk' (hp.objs.size + 1) (fun b o e => k' b o (k b o e)) (Nat.le_succ _) ⟨_, k' _ _ hget⟩⟩
end
section
variable {X : Cx} {C fI : Addr} {x qn : Str}
/-- x() as what is raised -/
theorem pmk0 {p pos : Pos} {k : Nat} (T : Exc0 X.K X.mg x qn C fI) (hr : Room k X.A) (hg : Gl X x := by rfl) (hdb : (x == ("__debug__" : Str)) = false := by decide) :
    PMk X (.Call (.Name x p) [] [] pos) (fun _ H Q => Q (.ref C) none H) := by
  intro pins s σ H Q I h
  refine wpAny_Call_Name_kw (ld_glob I hg T.gC ?_ hdb)
  refine PySem.W.callWith_K0 I.kIn T.kC ?_
  have hlim := I.nolimit
  obtain ⟨hp, g, dr, tk, os⟩ := s
  refine wpAny_call (exc0_made T I.kIn hlim (by have := hr.dp; omega) fun h' tk' e kp hn ⟨t0, he⟩ => ?_)
  show MkP X pins σ Q (.ref e) ⟨h', g, dr, tk', os⟩
  obtain ⟨G', g1, g2⟩ := restrict h' fun b => decide (b ≠ e)
  have gk : ∀ b, b ≠ e → G'.get? b = h'.get? b := fun b hb => g1 b (decide_eq_true hb)
  have ge : G'.get? e = none := g2 e (by simp)
  have old : ∀ b o, hp.get? b = some o → G'.get? b = some o := fun b o q => (gk b (Nat.ne_of_lt (Nat.lt_of_lt_of_le (Heap.lt_size q) hn))).trans (kp b o q)
  have J : Inv X pins σ H ⟨G', g, dr, tk', os⟩ := I.kept (t' := tk') old
  refine ⟨e, _, _, ⟨G', g, dr, tk', os⟩, H, .ref C, none, rfl, J, fun b o q => ?_, ge, he, ⟨rfl, rfl⟩, rfl, rfl, I.hok.fresh hn, rfl, I.bare, raises_own T.exC T.tyC, h⟩
  by_cases hb : b = e
  · have q' : G'.get? b = some o := q
    rw [hb, ge] at q'; cases q'
  · exact (gk b hb).symm.trans q
end
section
variable {K : PySem.W.Frag} {W : WX}
def wRaise0 (C : Addr) : SW := fun E τ => E.ex ⟨C, []⟩ τ
theorem ds_raise0 {C : Addr} : DS K W (fun _ σ H => (fun (_ : L2.St) (H : Hp) (Q : XK) => Q (.ref C) none H) σ H fun cls d H' => W cls d σ H') (wRaise0 C) :=
  ⟨fun σ H τ F Dn E S hw o => o.ex σ _ _ none τ F H (.refl S) ⟨rfl, .inl ⟨rfl, rfl⟩⟩ hw⟩
end
end L3

/-! ## sorted, of things of any depth -/
namespace L3
open PySem PySem.Spec PyProof.Rows L2
variable [TB : TabT]
section
variable {X : Cx}
theorem reads_each {pins : List (Addr × Obj)} {σ : L2.St} {H : Hp} {s : Shared} (I : Inv X pins σ H s) : ∀ {bs : List (V × PyData)} {us : List Value}, Vals (bs.map (·.1)) us → (∀ b ∈ bs, Dp X.K H b.1 b.2) →
    PySem.W.EachIs (fun v (b : V × PyData) => RelV b.1 v) us bs ∧ PySem.W.EachIs (fun v (b : V × PyData) => ∃ as, Reads s.heap v b.2 as) us bs
  | [], _, .nil, _ => ⟨.nil, .nil⟩
  | b :: bs, _, .cons r t, h => by
    obtain ⟨h1, h2⟩ := reads_each I t fun c hc => h c (List.mem_cons_of_mem _ hc)
    exact ⟨.cons r h1, .cons (Dp.reads I b.2 b.1 _ (h b (List.mem_cons_self ..)) r) h2⟩
theorem each_vals : ∀ {bs : List (V × PyData)} {us : List Value}, PySem.W.EachIs (fun v (b : V × PyData) => RelV b.1 v) us bs → Vals (bs.map (·.1)) us
  | _, _, .nil => .nil
  | _, _, .cons r t => .cons r (each_vals t)
def rSortG (K : PySem.W.Frag) : List V → Hp → VK → Prop := fun vs H Q => ∃ (a : Addr) (bs : List (V × PyData)), vs = [.ref a] ∧ SqL K H a (bs.map (·.1)) ∧ (∀ b ∈ bs, Dp K H b.1 b.2) ∧ PySem.W.AllAlike (bs.map (·.2)) ∧ PySem.W.Sortable (bs.map (·.2)) ∧ (∀ b ∈ bs, b.2.depth ≤ 60) ∧
  ∀ p, H p = none → Q (.ref p) (upd H p (.lst ((bs.mergeSort (PySem.W.dataLe false fun b => b.2)).map (·.1))))
theorem cr_sortG (hu : X.A.units + 64 < cLine) : CallR X (.builtin "sorted") (rSortG X.K) := by
  intro pins s σ H vs us Q I r h
  obtain ⟨a, bs, rfl, hs, hd, hal, hk, hdep, q⟩ := h
  obtain ⟨its, rv, hl, hz⟩ := I.list hs
  obtain ⟨u, rfl, ru⟩ := vals1 r
  obtain rfl : u = Value.ref a := ru
  obtain ⟨e1, e2⟩ := reads_each I rv hd
  have hlen : bs.length ≤ sizeLine := by
    have := rv.length
    rw [List.length_map] at this hz
    exact hz
  refine PySem.W.sorted_data (R := fun v (b : V × PyData) => RelV b.1 v) (enc := fun b => b.2) hl.isList e1 e2 hal hk hlen (fun b hb => by have := hdep b hb; omega) fun out ho eo => ?_
  obtain ⟨c, hc⟩ := sortedAll_at s.heap its out.toArray
  have vo := each_vals eo
  have hf := I.hok.fresh (Nat.le_succ s.heap.objs.size)
  refine ⟨.ref (s.heap.objs.size + 1), _, I.laid (t' := s.toks) (fun b o e => sortedAll_old e) (Nat.le_succ _) (o := .lst ((bs.mergeSort (PySem.W.dataLe false fun b => b.2)).map (·.1))) ⟨?_, out, c, vo, hc⟩, rfl, q _ hf⟩
  rw [vo.length, ho]
  exact hlen
end
section
variable {K : PySem.W.Frag} {W : WX}
def pyD (d : D) : PyData := (toPy d).getD .none
def leD (a b : D) : Bool := PySem.W.dataLe false (fun d => pyD d) a b
/-- sorted(xs) -/
def gSort : List D → (D → Prop) → Prop := fun ds q => ∃ es, (ds = [.lst es] ∨ ds = [.fl es]) ∧ (∀ e ∈ es, (toPy e).isSome) ∧ PySem.W.AllAlike (es.map pyD) ∧ PySem.W.Sortable (es.map pyD) ∧ (∀ e ∈ es, (pyD e).depth ≤ 60) ∧ q (.lst (es.mergeSort leD))
theorem reps_pairs {F : Hp} : ∀ {vs : List V} {ds : List D}, Reps K F vs ds → ∃ bs : List (V × D), bs.map (·.1) = vs ∧ bs.map (·.2) = ds ∧ ∀ b ∈ bs, Rep K F b.1 b.2
  | _, _, .nil => ⟨[], rfl, rfl, fun b h => by simp at h⟩
  | _, _, .cons (v := v) (d := d) r t => by
    obtain ⟨bs, h1, h2, h3⟩ := reps_pairs t
    refine ⟨(v, d) :: bs, by rw [List.map_cons, h1], by rw [List.map_cons, h2], fun b hb => ?_⟩
    rcases List.mem_cons.mp hb with rfl | hb
    · exact r
    · exact h3 b hb
theorem pairs_reps {F : Hp} : ∀ {bs : List (V × D)}, (∀ b ∈ bs, Rep K F b.1 b.2) → Reps K F (bs.map (·.1)) (bs.map (·.2))
  | [], _ => .nil
  | b :: bs, h => .cons (h b (List.mem_cons_self ..)) (pairs_reps fun c hc => h c (List.mem_cons_of_mem _ hc))
theorem o_sort : OpN K (rSortG K) gSort := by
  rintro F H xs ds q Q s r ⟨es, e, hsome, hal, hk, hdep, hq⟩ k
  have : ∃ a vs, xs = [.ref a] ∧ SqL K F a vs ∧ Reps K F vs es := by
    rcases e with rfl | rfl
    · obtain ⟨v, rfl, r1⟩ := r.one
      cases r1 with
      | lst h r => exact ⟨_, _, rfl, .inl (.inl h), r⟩
    · obtain ⟨v, rfl, r1⟩ := r.one
      cases r1 with
      | fl h r => exact ⟨_, _, rfl, h, r⟩
  obtain ⟨a, vs, rfl, hs, rs⟩ := this
  obtain ⟨bs, rfl, rfl, hb⟩ := reps_pairs rs
  let f : V × D → V × PyData := fun b => (b.1, pyD b.2)
  have m1 : (bs.map f).map (·.1) = bs.map (·.1) := by rw [List.map_map]; rfl
  have m2 : (bs.map f).map (·.2) = (bs.map (·.2)).map pyD := by rw [List.map_map, List.map_map]; rfl
  refine ⟨a, bs.map f, rfl, by rw [m1]; exact s.seq hs, fun b hm => ?_, by rw [m2]; exact hal, by rw [m2]; exact hk, fun b hm => ?_, fun p hp => ?_⟩
  · obtain ⟨c, hc, rfl⟩ := List.mem_map.mp hm
    have h1 := hsome c.2 (List.mem_map.mpr ⟨c, hc, rfl⟩)
    obtain ⟨pd, e⟩ := Option.isSome_iff_exists.mp h1
    have e2 : pyD c.2 = pd := by unfold pyD; rw [e]; rfl
    show Dp K H c.1 (pyD c.2)
    rw [e2]
    exact Dp_mono s (dp_of (hb c hc) e)
  · obtain ⟨c, hc, rfl⟩ := List.mem_map.mp hm
    exact hdep c.2 (List.mem_map.mpr ⟨c, hc, rfl⟩)
  · have e1 : (bs.map f).mergeSort (PySem.W.dataLe false fun b => b.2) = (bs.mergeSort fun a b => leD a.2 b.2).map f := by
      symm
      apply List.map_mergeSort
      intro a _ b _
      rfl
    have e2 : (bs.mergeSort fun a b => leD a.2 b.2).map (·.2) = (bs.map (·.2)).mergeSort leD := by
      apply List.map_mergeSort
      intro a _ b _
      rfl
    rw [e1, List.map_map]
    have e3 : ((fun b : V × PyData => b.1) ∘ f) = fun b : V × D => b.1 := rfl
    rw [e3]
    obtain ⟨x1, x2⟩ := new_ext (o := .lst ((bs.mergeSort fun a b => leD a.2 b.2).map (·.1))) s hp
    refine k _ (.lst ((bs.map (·.2)).mergeSort leD)) _ _ x1 x2 (.lst upd_same ?_) hq
    rw [← e2]
    refine pairs_reps fun b hm => ?_
    exact (hb b (List.mem_mergeSort.mp hm)).mono (new_same s hp)

/-! ## dicts that are written, things that are only handed about -/
def wDict0 : EW := fun τ q _ => q (.oth (.type "dict")) τ
theorem de_dict0 : DE K W tDNewK wDict0 := by
  refine ⟨fun σ H τ F Q q e S hq k _ p hp => ?_⟩
  obtain ⟨x1, x2⟩ := new_ext (o := .dK []) S.sub hp
  exact k _ _ τ _ _ (.small S x1 x2) (.oth (.base (.dK upd_same))) hq
def keyD : D → Option Key | .int i => some (.inl i) | .str x => some (.inr x) | _ => none
/-- {k: v} -/
def wDict1 (wk wv : EW) : EW := fun τ q e => wk τ (fun k τ1 => wv τ1 (fun _ τ2 => (keyD k).isSome ∧ q (.oth (.type "dict")) τ2) e) e
theorem de_dict1 {tk tv : TE} {wk wv : EW} (hk : DE K W tk wk) (hv : DE K W tv wv) : DE K W (tDisp [(tk, tv)]) (wDict1 wk wv) := by
  refine ⟨fun σ H τ F Q q e S hw kq x p hp => ?_⟩
  have nF := new_not_data S hp
  have nO := new_not_own S hp
  have T0 : To K F H σ τ F (upd H p (.dK [])) τ := (To.refl S).touch (fr_none hp) nF nO (tabs_new hp)
  refine hk.run σ _ τ F _ _ e T0.ok hw (fun v1 d1 τ1 F1 H1 t1 r1 h1 => ?_) (x.of T0)
  refine hv.run σ H1 τ1 F1 _ _ e t1.ok h1 (fun v2 d2 τ2 F2 H2 t2 r2 ⟨hs, hq⟩ => ?_) ((x.of T0).of t1)
  have t12 := t1.trans t2
  have hP : H2 p = some (.dK []) := t12.ext.keep p _ upd_same (fun z => nO z) (fun ps z => by cases z)
  have nF2 : F2 p = none := t12.not_data (o := .dK []) nO upd_same nF
  have nO2 : ¬ IsOwn τ2 p := t12.not_own (o := .dK []) nO upd_same
  obtain ⟨key, ek⟩ := Option.isSome_iff_exists.mp hs
  have ev : v1 = kV key := by
    cases d1 <;> cases ek
    · exact r1.int_of
    · cases r1; rfl
  refine ⟨hP, [(key, v2)], by rw [ev]; rfl, by simp, ?_⟩
  have T2 := T0.trans t12
  have T3 : To K F H σ τ F2 (upd H2 p (.dK (mergeK [] [(key, v2)]))) τ2 := T2.touch (fr_none hp) nF2 nO2 (tabs_dK hP)
  exact kq _ _ τ2 _ _ (T3.freeze (fr_none hp) nF2 upd_same nO2) (.oth (.base (.dK upd_same))) hq
end
end L3

/-! ## enumerate of a tuple, t[::-1] -/
namespace L3
open PySem PySem.Spec PyProof.Rows L2
theorem wp_ctt {M : Model} {A : Around} {Q : Bool → Shared → Prop} {E : Value → Shared → Prop} {s : Shared} {c : Value} (h : ∀ b, Q b s) : wpAny M A (Builtin.SmallTypes.calledThroughType c) Q E s := wpAny_bind (wpAny_stack_any fun _ => wpAny_pure (h _))
theorem meets_enumT (v : Value) (o : Obj) (H : Heap → Prop)
    (hit : ∀ (prog : Program) (w : World) (A : Around) (E : Value → Shared → Prop) (s : Shared) (Q : Value → Shared → Prop), H s.heap →
      Q (.ref s.heap.objs.size) { s with heap := s.heap.push o } → wpAny (model prog w) A (pyIter v) Q E s) :
    Meets (Builtin.«enumerate.__new__» { pos := [.type "enumerate", v] }) fun _ R s => H s.heap ∧
      R (.ok (.ret (.ref (s.heap.push o).objs.size))) { s with heap := (s.heap.push o).push { cls := .type "enumerate", data := .fields #[.none, .bool false, .ref s.heap.objs.size, rawInt 0, .none, .none] } } := by
  refine Meets.of_wp fun prog w A R s h => ?_
  obtain ⟨h1, h2⟩ := h
  have hsub := sub_enumerate
  unfold Builtin.«enumerate.__new__» Builtin.SmallTypes.newClass
  refine wpAny_bind ?_
  show wpAny _ _ ((isType (.type "enumerate")) >>= _) _ _ _
  refine wpAny_bind ?_
  refine wpAny_pure ?_
  refine wpAny_ite_false rfl ?_
  refine wpAny_bind (wpAny_of_eq hsub (wpAny_ite_false rfl (wpAny_pure ?_)))
  refine wpAny_ite_true rfl ?_
  refine wpAny_bind ?_
  have fin : wpAny (model prog w) A.in1 (do
              let __do_lift ← pyIter v
              let __do_lift ←
                Builtin.SmallTypes.newRecord (Value.type "enumerate")
                    (Builtin.SmallTypes.ownedTupleFields ++ [__do_lift, rawInt 0, Value.none, Value.none])
              ret __do_lift) (fun fin s' => ∃ v, fin = Fin.done (Flow.ret v) ∧ R (Except.ok (Flow.ret v)) s') (fun e s' => R (Except.error e) s') s := by
    refine wpAny_bind (hit prog w A.in1 _ s _ h1 ?_)
    refine wpAny_bind ?_
    unfold Builtin.SmallTypes.newRecord
    refine wpAny_newObj_type ?_ (show (6 : Nat) ≤ sizeLine + 2 by decide)
    exact wpAny_pure ⟨_, rfl, h2⟩
  refine wp_ctt fun short => ?_
  cases short
  · refine wpAny_ite_false rfl ?_
    refine wpAny_bind ?_
    refine wpAny_pure (a := (v, none)) ?_
    exact fin
  · refine wpAny_ite_true rfl ?_
    refine wpAny_bind ?_
    refine wpAny_pure (a := (v, none)) ?_
    exact fin
theorem call_enumT {prog : Program} {w : World} {A : Around} {E : Value → Shared → Prop} {s : Shared} {t : Addr} {items : Array Value} {Q : Value → Shared → Prop} (ht : s.heap.IsTuple t items)
    (h : ∀ h' : Heap, IsEnum h' (s.heap.objs.size + 1) s.heap.objs.size 0 .none → h'.IsTupleIter s.heap.objs.size t 0 → h'.objs.size = s.heap.objs.size + 2 → (∀ (b : Addr) (o : Obj), s.heap.get? b = some o → h'.get? b = some o) →
      Q (.ref (s.heap.objs.size + 1)) { s with heap := h' }) : wpAny (model prog w) A (call (.type "enumerate") [.ref t]) Q E s := by
  let io : Obj := { cls := .type "tuple_iterator", data := .fields #[.ref t, .int 0 0] }
  refine callType_new F.called_enumerate (by decide) (F.typeCall_enumerate_1 _) (F.newCall_enumerate_1 _) (fun obj => F.args_object_init_2 obj _) F.entry_enumerate_new (meets_enumT (.ref t) io (fun h => h.IsTuple t items) fun prog w A E s Q hh hq => wpAny_pyIter_tuple hh hq) ⟨ht, ?_⟩
  have hz := Heap.size_push s.heap io
  have he : ((s.heap.push io).push { cls := .type "enumerate", data := .fields #[.none, .bool false, .ref s.heap.objs.size, rawInt 0, .none, .none] }).get? (s.heap.objs.size + 1) = some { cls := .type "enumerate", data := .fields #[.none, .bool false, .ref s.heap.objs.size, rawInt 0, .none, .none] } := by
    rw [← hz]
    exact Heap.get?_push_size (s.heap.push io) rfl
  rw [hz]
  refine ⟨⟨_, he, rfl⟩, h _ he ⟨io, Heap.get?_push_of_some _ (Heap.get?_push_size s.heap rfl), rfl, rfl⟩ ?_ fun b o e => Heap.get?_push_of_some _ (Heap.get?_push_of_some _ e)⟩
  rw [Heap.size_push, hz]
theorem draws_tuple {prog : Program} {w : World} {A : Around} (hh : A.handled = none) (it l : Addr) (hne : l ≠ it) (items : Array Value) :
    Draws prog w A it [it, l] items.size (fun i v => items[i]? = some v) fun i h => h.IsTupleIter it l i ∧ h.IsTuple l items := by
  refine ⟨fun _ _ st => ?_, fun _ _ _ st hk => ⟨st.1.at fun o e => hk it (by simp) o e, st.2.at fun o e => hk l (by simp) o e⟩, fun i s Q E hi st hQ => ?_, fun s Q E st hE => RZ.nextOf_tuple_end hh st.1 st.2 (by simp) hE⟩
  · obtain ⟨o, ho, _⟩ := st.1
    exact ⟨o, ho⟩
  · exact RZ.nextOf_tuple_item (x := items[i]) st.1 st.2 (by simp [hi]) fun h' hit' hs' => hQ items[i] h' s.toks (by simp [hi]) ⟨hit', st.2.extBut hs'.extBut hne⟩ hs'
theorem draws_end {prog : Program} {w : World} {A : Around} (hh : A.handled = none) (it l : Addr) {items : Array Value} {i : Nat} (hi : items[i]? = none) :
    Draws prog w A it [it, l] i (fun _ _ => False) fun j h => j = i ∧ h.IsTupleIter it l j ∧ h.IsTuple l items := by
  refine ⟨fun _ _ st => ?_, fun _ _ _ st hk => ⟨st.1, st.2.1.at fun o e => hk it (by simp) o e, st.2.2.at fun o e => hk l (by simp) o e⟩, fun j s Q E hj st hQ => absurd st.1 (Nat.ne_of_lt hj), fun s Q E st hE => RZ.nextOf_tuple_end hh st.2.1 st.2.2 hi hE⟩
  obtain ⟨o, ho, _⟩ := st.2.1
  exact ⟨o, ho⟩
def IteT (K : PySem.W.Frag) (a : Addr) : It where
  go i H := ∃ xs x, SqT K H a xs ∧ xs[i]? = some x
  yld i H v H' := ∃ T x, v = .ref T ∧ H T = none ∧ H' = upd H T (.tup [.int i, x]) ∧ ∀ xs, SqT K H a xs → xs[i]? = some x
  stop i H := ∃ xs, SqT K H a xs ∧ xs.length ≤ i
theorem turn_enumT {P : Program} {w : World} {K : PySem.W.Frag} {elts : List Expr} {kk : Nat} {tpos : Pos} (a e it : Addr) :
    Turn P w K (.Tuple elts kk tpos) (IteT K a) [e, it] e fun i h => (∃ old, IsEnum h e it (i : Int) old) ∧ h.IsTupleIter it a i ∧ e ≠ it := by
  refine ⟨by simp, fun i h ⟨⟨old, he⟩, ⟨o, ho, hc, hd⟩, _⟩ b hb => ?_, fun i h h' ⟨⟨old, he⟩, hi, hne⟩ k => ⟨⟨old, k e (by simp) _ he⟩, hi.at fun o q => k it (by simp) o q, hne⟩, ?_, ?_, fun A i s Q E ⟨⟨_, he⟩, _⟩ h => wpAny_pyIter_enum he h⟩
  · have e' : b = e ∨ b = it := by simpa using hb
    rcases e' with rfl | rfl
    · exact ⟨_, he, fun v q => by cases q⟩
    · exact ⟨o, ho, fun v q => by rw [hd] at q; cases q⟩
  · rintro X rfl rfl rfl hc i pins s σ H E I hf ⟨⟨old, he⟩, hit, hne⟩ ⟨xs, x, hq, hx⟩
    obtain ⟨its, rv, p, hz⟩ := I.tuple hq
    obtain ⟨u, hu, ru⟩ := rv.get hx
    have hel : e < s.heap.objs.size := Heap.lt_size he
    have hil : it < s.heap.objs.size := by
      obtain ⟨_, q, _⟩ := hit
      exact Heap.lt_size q
    have hat : a ≠ it := fun z => by
      subst z
      obtain ⟨o1, q1, c1, _⟩ := hit
      obtain ⟨o2, q2, c2, _⟩ := p
      rw [q1] at q2; cases q2; rw [c1] at c2; injection c2 with z; exact absurd z (by decide)
    have hae : e ∉ [it, a] := fun z => by
      have z' : e = it ∨ e = a := by simpa using z
      rcases z' with z' | rfl
      · exact hne z'
      · obtain ⟨o2, q2, c2, _⟩ := p
        rw [he] at q2; cases q2; injection c2 with z; exact absurd z (by decide)
    have hi : i < its.toArray.size := by
      rw [List.size_toArray]
      exact (List.getElem?_eq_some_iff.mp hu).1
    refine wpAny_pyNext_enum_itemD (draws_tuple (by exact I.ok.hd hc) it a hat its.toArray) he ⟨hit, p⟩ hi hne hae fun u' h' tk hu' ho hit' hT hsz hk => ?_
    have eu : u' = u := by
      have : its[i]? = some u' := by simpa using hu'
      rw [hu] at this; cases this; rfl
    subst eu
    refine ⟨_, rfl, wpAny_letOwnedTupleGo_enum ho fun h'' he' sb => ?_⟩
    have hT2 := (sb.2 s.heap.objs.size (Nat.ne_of_gt hel)).trans hT
    have I1 := I.turnedNew (h' := h'') (t' := tk + 1) (ch := [e, it]) (T := s.heap.objs.size) (ob := .tup [.int i, x]) (fun b ob hb q => (sb.2 b fun z => hb (by simp [z])).trans (hk b ob (fun z => hb (by simp [z])) (fun z => hb (by simp [z])) q)) hf (Nat.le_refl _)
      ⟨(show (2 : Nat) ≤ sizeLine by decide), [.int i tk, u'], .cons ⟨tk, rfl⟩ (.cons ru .nil), _, hT2, rfl, 0, rfl⟩
    refine ⟨.ref s.heap.objs.size, _, I1, rfl, ⟨_, x, rfl, I.hok.fresh (Nat.le_refl _), rfl, fun ys hy => ?_⟩, ⟨⟨u', he'⟩, hit'.1.at fun o q => (sb.2 it (Ne.symm hne)).trans q, hne⟩, fun b hb => ?_⟩
    · rw [I.tuple_inj hy hq]; exact hx
    · have e' : b = e ∨ b = it := by simpa using hb
      have hb' : b < s.heap.objs.size := by
        rcases e' with rfl | rfl
        · exact hel
        · exact hil
      rw [upd_ne (Nat.ne_of_lt hb')]
      exact (hf b hb).1
  · rintro X rfl rfl rfl hc i pins s σ H E I hf ⟨⟨old, he⟩, hit, hne⟩ ⟨xs, hq, hx⟩
    obtain ⟨its, rv, p, hz⟩ := I.tuple hq
    obtain ⟨f0, f1, f2, f3, f4, f5⟩ := hf it (by simp)
    have hat : a ≠ it := fun z => by
      subst z
      obtain ⟨o1, q1, c1, _⟩ := hit
      obtain ⟨o2, q2, c2, _⟩ := p
      rw [q1] at q2; cases q2; rw [c1] at c2; injection c2 with z; exact absurd z (by decide)
    have hl : its.toArray[i]? = none := by
      have := rv.length
      simp
      omega
    refine wpAny_pyNext_enum_endD (draws_end (by exact I.ok.hd hc) it a hl) he ⟨rfl, hit, p⟩ fun h' eb => ⟨rfl, I.turned (fun b o hb q => eb b o hb q) f0 f1 f3 f4 f5⟩
def iEnumT (K : PySem.W.Frag) (ta : TA) : TI := fun σ H R => ta σ H fun vs H1 => ∃ a xs, vs = [.ref a] ∧ SqT K H1 a xs ∧ R (IteT K a) H1
theorem pi_enumT {X : Cx} {e : Expr} {ta : TA} {p pos tpos : Pos} {elts : List Expr} {kk : Nat} (hg : Gl X "enumerate") (hm : X.mg "enumerate" = none) (ha : PA X [e] ta)
    (hs : starEach [e] X.env = [(false, eval e X.env)] := by rfl) : PI X (.Tuple elts kk tpos) (.Call (.Name "enumerate" p) [e] [] pos) (iEnumT X.K ta) := by
  refine ⟨fun pins s σ H R I h => ?_⟩
  refine Call_ (ld_blt I hg hm boot_enumerate (PyProof.Rows.callWith_type1 (thn (ha.run pos pins s σ H _ I h) fun us s1 ⟨vs, H1, I1, r1, a, xs, ex, hq, q⟩ => ?_) hs rfl) (by decide) (by decide)) rfl
  subst ex
  obtain ⟨u, rfl, ru⟩ := vals1 r1
  obtain rfl : u = .ref a := ru
  obtain ⟨its, rv, p, hz⟩ := I1.tuple hq
  refine call_enumT p fun h' he hit hsz hk => wpAny_pyIter_enum he ?_
  have I2 := I1.kept (t' := s1.toks) hk
  refine ⟨_, [s1.heap.objs.size + 1, s1.heap.objs.size], _, _, H1, rfl, I2, turn_enumT a _ _, ⟨⟨_, he⟩, hit, Nat.succ_ne_self _⟩, fun b hb => ?_, q⟩
  have hle : s1.heap.objs.size ≤ b := by
    have e' : b = s1.heap.objs.size + 1 ∨ b = s1.heap.objs.size := by simpa using hb
    rcases e' with rfl | rfl
    · exact Nat.le_succ _
    · exact Nat.le_refl _
  exact I1.fpOk hle (I1.hok.fresh hle)
section
variable [TB : TabT] {K : PySem.W.Frag} {W : WX}
def wEnumT (wa : AW) : IW := fun τ q e => wa τ (fun ds τ' => ∃ es, ds = [.tup es] ∧ q (es.mapIdx fun i d => .tup [.int i, d]) τ') e
theorem it_enumT {F : Hp} {a : Addr} {xs : List V} {ds : List D} (h : SqT K F a xs) (r : Reps K F xs ds) : ItOk K F (IteT K a) (ds.mapIdx fun i d => .tup [.int i, d]) := by
  refine ⟨fun i F2 H s s2 hi => ?_, fun F2 H s s2 => ⟨xs, SqT_mono s2 (SqT_mono s h), by rw [List.length_mapIdx, r.length]; exact Nat.le_refl _⟩, fun i F2 H x H' s s2 hi y => ?_⟩
  · rw [List.length_mapIdx, ← r.length] at hi
    exact ⟨xs, xs[i], SqT_mono s2 (SqT_mono s h), List.getElem?_eq_getElem hi⟩
  · obtain ⟨T, x', rfl, hT, rfl, e⟩ := y
    obtain ⟨d, e1, e2⟩ := (r.mono s).get (e xs (SqT_mono s2 (SqT_mono s h)))
    obtain ⟨x1, x2⟩ := new_ext (o := .tup [.int i, x']) s2 hT
    refine ⟨.tup [.int i, d], _, by rw [List.getElem?_mapIdx, e1]; rfl, x1, x2, .tup (.inl (.inl upd_same)) (.cons (.int _) (.cons (e2.mono (new_same s2 hT)) .nil))⟩
theorem di_enumT {t : TA} {w : AW} (h : DA K W t w) : DI K W (iEnumT K t) (wEnumT w) := by
  refine ⟨fun σ H τ F R q e S hw k x => h.run σ H τ F _ _ e S hw (fun vs ds τ' F' H' t' r ⟨es, ed, hq⟩ => ?_) x⟩
  subst ed
  obtain ⟨v, rfl, r1⟩ := r.one
  cases r1 with
  | tup hs r2 => exact ⟨_, _, rfl, SqT_mono t'.ok.sub hs, k _ _ τ' F' H' t' (it_enumT hs r2) hq⟩
end

/-! ### t[::-1] -/
theorem fm_congr {α β : Type} {f g : α → Option β} : ∀ {l : List α}, (∀ k ∈ l, f k = g k) → l.filterMap f = l.filterMap g
  | [], _ => rfl
  | a :: l, h => by
    have ih := fm_congr (f := f) (g := g) (l := l) fun k hk => h k (List.mem_cons_of_mem _ hk)
    rw [List.filterMap_cons, List.filterMap_cons, h a (List.mem_cons_self ..), ih]
theorem range_rev {α : Type} (l : List α) : (List.range l.length).filterMap (fun k : Nat => l.toArray[(((l.length : Int) - 1) + (k : Int) * (-1)).toNat]?) = l.reverse := by
  have e : ∀ k ∈ List.range l.length, l.toArray[(((l.length : Int) - 1) + (k : Int) * (-1)).toNat]? = l.reverse[k]? := fun k hk => by
    have hk := List.mem_range.mp hk
    have : (((l.length : Int) - 1) + (k : Int) * (-1)).toNat = l.length - 1 - k := by omega
    rw [this, List.getElem?_reverse hk]
    simp
  rw [fm_congr e, ← List.length_reverse]
  generalize l.reverse = m
  induction m with
  | nil => rfl
  | cons x m ih =>
    rw [List.length_cons, List.range_succ_eq_map, List.filterMap_cons]
    simp only [List.getElem?_cons_zero, List.filterMap_map]
    congr 1
theorem slice_rev {prog : Program} {w : World} {A : Around} {E : Value → Shared → Prop} {s : Shared} {sl : Addr} {vs : Value} {n : Nat} {Q : Int × Int × Nat → Shared → Prop} (hs : s.heap.IsSliceOf sl .none .none vs) (ps : IsPart vs (some (-1)))
    (h : Q ((n : Int) - 1, -1, n) s) : wpAny (model prog w) A (Builtin.Slice.sliceApplied (.ref sl) (pure (n : Int))) Q E s := by
  obtain ⟨os, hos, hcs, hds⟩ := hs
  unfold Builtin.Slice.sliceApplied Builtin.Slice.sliceFields
  refine wpAny_bind (wpAny_bind (wpAny_field hos hds rfl (wpAny_bind (wpAny_field hos hds rfl (wpAny_bind (wpAny_field hos hds rfl (wpAny_pure ?_)))))))
  refine wpAny_bind (HT.slicePart_ ps ?_)
  refine wpAny_ite_false (by decide) ?_
  refine wpAny_bind (slicePart_none (wpAny_bind (slicePart_none (wpAny_bind (wpAny_pure ?_)))))
  show wpAny _ _ (pure ((n : Int) - 1, (-1 : Int), Builtin.Slice.slicePlaces ((n : Int) - 1) (-1) (-1))) _ _ _
  have e : Builtin.Slice.slicePlaces ((n : Int) - 1) (-1) (-1) = n := by
    unfold Builtin.Slice.slicePlaces
    rw [if_neg (by decide)]
    by_cases hn : (n : Int) - 1 > -1
    · rw [if_pos hn]
      show (((n : Int) - 1 - -1 - 1) / 1 + 1).toNat = n
      rw [Int.ediv_one]
      omega
    · rw [if_neg hn]
      omega
  rw [e]
  exact wpAny_pure h
theorem getItem_tupleRev {prog : Program} {w : World} {A : Around} {E : Value → Shared → Prop} {s : Shared} {t sl : Addr} {its : List Value} {vs : Value} {Q : Value → Shared → Prop} (ht : IsTup s.heap t its.toArray) (hs : s.heap.IsSliceOf sl .none .none vs) (ps : IsPart vs (some (-1)))
    (hz : its.length ≤ sizeLine) (h : Q (.ref s.heap.objs.size) { s with heap := s.heap.push { cls := .type "tuple", data := .seq its.reverse.toArray } }) : wpAny (model prog w) A (getItem (.ref t) (.ref sl)) Q E s := by
  have hTs : s.TypeIs (.ref sl) "slice" := by
    obtain ⟨os, hos, hcs, _⟩ := hs
    exact ⟨os, hos, hcs⟩
  refine wpAny_holding (wpAny_bind (wpAny_sequenceKey ht.typeIs (by decide) (wpAny_bind (wpAny_callSpecial?_slot ht.typeIs slot_tuple_getitem (wpAny_call_entry slot_tuple_getitem ht.typeIs entry_tuple_getitem ?_)))))
  unfold Builtin.«tuple.__getitem__»
  refine wpAny_bind (wpAny_pure (a := (Value.ref t, [Value.ref sl])) ?_)
  refine wpAny_bind (tupleItemsOf_ ht (wpAny_bind (wpAny_typeOf hTs ?_)))
  refine wpAny_ite_true rfl (wpAny_bind (slice_rev hs ps ?_))
  rw [List.size_toArray]
  refine wpAny_ite_false (by simp) ?_
  show wpAny _ _ (Builtin.Tuple.tupleExact (((List.range its.length).filterMap (fun k : Nat => its.toArray[(((its.length : Int) - 1) + (k : Int) * (-1)).toNat]?)).toArray) >>= _) _ _ _
  rw [range_rev]
  refine wpAny_bind (wpAny_newObj_type ?_ (show its.reverse.toArray.size ≤ sizeLine by simpa using hz))
  exact wpAny_pure ⟨_, rfl, wpAny_pure h⟩
def tRevT (K : PySem.W.Frag) (te : TE) : TE := fun σ H Q => te σ H fun x H1 => ∃ a xs, x = .ref a ∧ SqT K H1 a xs ∧ ∀ p, H1 p = none → Q (.ref p) (upd H1 p (.tup xs.reverse))
theorem pe_revT {X : Cx} {e : Expr} {te : TE} {k : Nat} {p1 p2 p3 pos : Pos} (he : PE X e te) :
    PE X (.Subscript e (.Slice none none (some (.UnaryOp .USub (.Constant (.int 1) k p1) p2)) p3) pos) (tRevT X.K te) := by
  refine ⟨fun pins s σ H Q I h => ?_⟩
  refine Subscript_ (thn (he.run pins s σ H _ I h) fun v s1 ⟨x, H1, I1, r1, a, xs, ex, hx, q⟩ => ?_)
  subst ex
  cases r1
  have hst : PO X (some (.UnaryOp .USub (.Constant (.int 1) k p1) p2)) _ := po_some (pe_un un_neg pe_int)
  refine wpAny_Slice (thn (po_none.run pins s1 σ H1 (fun o H2 => o = none ∧ H2 = H1) I1 ⟨rfl, rfl⟩) fun vl s2 ⟨l, H2, I2, pl, el, e2⟩ => ?_)
  subst el; subst e2
  refine thn (po_none.run pins s2 σ H2 (fun o H3 => o = none ∧ H3 = H2) I2 ⟨rfl, rfl⟩) fun vu s3 ⟨u, H3, I3, pu, eu, e3⟩ => ?_
  subst eu; subst e3
  refine thn (hst.run pins s3 σ H3 (fun o H4 => o = some (-1) ∧ H4 = H3) I3 ⟨1, rfl, -1, rfl, rfl, rfl⟩) fun vs s4 ⟨o, H4, I4, ps, eo, e4⟩ => ?_
  subst eo; subst e4
  cases pl
  cases pu
  have I5 := I4.kept (t' := s4.toks) fun b ob q => Heap.get?_push_of_some { cls := Value.type "slice", data := Data.fields #[.none, .none, vs] } q
  obtain ⟨its, r, ht, hz⟩ := I5.tuple hx
  refine tail_any ht.typeIs slot_tuple_getitem.lookup (getItem_tupleRev ht (Heap.IsSliceOf.new s4.heap .none .none vs) ps (by rw [← r.length]; exact hz) ?_) rfl
  refine ⟨.ref _, _, I5.laid (t' := s4.toks) (fun b ob q => Heap.get?_push_of_some _ q) (Nat.le_refl _) (o := .tup xs.reverse) ⟨?_, its.reverse, r.reverse, IsTup.new _ _⟩, rfl, q _ (I5.hok.fresh (Nat.le_refl _))⟩
  rw [List.length_reverse]
  exact hz
section
variable [TB : TabT] {K : PySem.W.Frag} {W : WX}
theorem Reps.reverse {F : Hp} : ∀ {vs : List V} {ds : List D}, Reps K F vs ds → Reps K F vs.reverse ds.reverse
  | _, _, .nil => .nil
  | _, _, .cons h r => by
    rw [List.reverse_cons, List.reverse_cons]
    exact (Reps.reverse r).append (.cons h .nil)
def wRevT (we : EW) : EW := fun τ q e => we τ (fun d τ' => ∃ es, d = .tup es ∧ q (.tup es.reverse) τ') e
theorem de_revT {t : TE} {w : EW} (h : DE K W t w) : DE K W (tRevT K t) (wRevT w) := by
  refine ⟨fun σ H τ F Q q e S hw k x => h.run σ H τ F _ _ e S hw (fun v d τ' F' H' t' r ⟨es, ed, hq⟩ => ?_) x⟩
  subst ed
  cases r with
  | @tup a xs _ hs r =>
    refine ⟨a, xs, rfl, SqT_mono t'.ok.sub hs, fun p hp => ?_⟩
    obtain ⟨x1, x2⟩ := new_ext (o := .tup xs.reverse) t'.ok.sub hp
    exact k _ _ τ' _ _ (t'.trans (.small t'.ok x1 x2)) (.tup (.inl (.inl upd_same)) (r.reverse.mono (new_same t'.ok.sub hp))) hq
theorem o_catT : Op2 K (rCatT K) gCatT := by
  rintro F H x y d1 d2 q Q s r1 r2 ⟨as, bs, rfl, rfl, hn, hl, hq⟩ k
  cases r1 with
  | @tup a xs _ h1 r1 =>
    cases r2 with
    | @tup b ys _ h2 r2 =>
      refine ⟨a, b, xs, ys, rfl, rfl, SqT_mono s h1, SqT_mono s h2, fun z => hn ?_, by rw [r1.length, r2.length]; exact Nat.le_of_lt (small1000 hl), fun z => ?_, fun z p hp => ?_⟩
      · subst z; cases r1; rfl
      · subst z
        cases r2
        exact k _ (.tup as) F H (.refl _ _ _) s (.tup h1 r1) (by rw [List.append_nil] at hq; exact hq)
      · obtain ⟨x1, x2⟩ := new_ext (o := .tup (xs ++ ys)) s hp
        exact k _ (.tup (as ++ bs)) _ _ x1 x2 (.tup (.inl (.inl upd_same)) ((r1.append r2).mono (new_same s hp))) hq
/-- an own list becomes data where it stands -/
def wFrz (i : Nat) : EW := fun τ q _ => ∃ p es, τ[i]? = some (.own p (.lst es)) ∧ q (.lst es) (τ.set i (.dat (.lst es)))
theorem de_frz (i : Nat) : DE K W (tVar i) (wFrz i) := by
  refine ⟨fun σ H τ F Q q e S ⟨p, es, e0, hq⟩ k _ => ?_⟩
  obtain ⟨s0, f0, vs0, h0, r0⟩ := own_lst S e0
  have hi : i < τ.length := (List.getElem?_eq_some_iff.mp e0).1
  refine ⟨.ref p, s0, ?_⟩
  have s : Same F (upd F p (.lst vs0)) := same_upd f0
  have own : ∀ {j : Nat} {q : Addr} {ds : Cont}, (τ.set i (Cell.dat (.lst es)))[j]? = some (Cell.own q ds) → j ≠ i ∧ τ[j]? = some (Cell.own q ds) := fun {j q ds} h => by
    by_cases e : i = j
    · subst e
      rw [List.getElem?_set_self hi] at h
      cases h
    · rw [List.getElem?_set_ne e] at h
      exact ⟨fun z => e z.symm, h⟩
  refine k (.ref p) (.lst es) _ (upd F p (.lst vs0)) H ⟨⟨s, fun a u e => ?_, fun _ _ e _ _ => e, fun _ e => e, fun g => ⟨g.1, nt_upd nt_lst g.2⟩⟩, fun q ⟨j, fs, e⟩ => .inl ⟨j, fs, (own e).2⟩, ⟨⟨S.tabs.1, nt_upd nt_lst S.tabs.2⟩, fun a u e => ?_, by rw [List.length_set]; exact S.len, fun j v c h1 h2 => ?_, fun j q fs e => ?_, fun j k q ds es e1 e2 => S.inj j k q ds es (own e1).2 (own e2).2⟩⟩ (.lst upd_same (r0.mono s)) hq
  · by_cases q : a = p
    · subst q; exact .inr (.inr ⟨i, .lst es, e0⟩)
    · rw [upd_ne q] at e; exact .inl e
  · by_cases q : a = p
    · subst q; rw [upd_same] at e; rw [h0]; exact e
    · rw [upd_ne q] at e; exact S.sub a u e
  · by_cases e : i = j
    · subst e
      rw [List.getElem?_set_self hi] at h2
      cases h2
      rw [s0] at h1
      cases h1
      exact ⟨.ref p, rfl, .lst upd_same (r0.mono s)⟩
    · rw [List.getElem?_set_ne e] at h2
      exact (S.slot j v c h1 h2).mono s
  · obtain ⟨hne, e⟩ := own e
    obtain ⟨g1, ws, g2, g3⟩ := S.own j q fs e
    refine ⟨?_, ws, g2, g3.mono s⟩
    rw [upd_ne (fun z => hne (S.inj j i p fs (.lst es) (by rw [← z]; exact e) e0))]
    exact g1
end
end L3


/-! ## own classes: an instance is made, its fields are set -/
namespace L3
open PySem PySem.Spec PyProof.Rows L2
variable [TB : TabT]
section
variable {K : PySem.W.Frag} {W : WX}
def putD (f : Str) (d : D) : List (Str × D) → List (Str × D)
  | [] => [(f, d)]
  | (g, e) :: r => if g = f then (g, d) :: r else (g, e) :: putD f d r
theorem frep_put {F : Hp} {f : Str} {v : V} {d : D} (h : Rep K F v d) : ∀ {vs : List (Str × V)} {ds : List (Str × D)}, FRep K F vs ds → FRep K F (putF f v vs) (putD f d ds)
  | _, _, .nil => .cons h .nil
  | _, _, .cons (f := g) (v := u) (vs := vs) r t => by
    unfold putF putD
    by_cases e : g = f
    · simp only [e, if_true]
      exact .cons h t
    · simp only [e, if_false]
      exact .cons r (frep_put h t)
theorem FRep.length {F : Hp} : ∀ {vs : List (Str × V)} {ds : List (Str × D)}, FRep K F vs ds → vs.length = ds.length
  | _, _, .nil => rfl
  | _, _, .cons _ r => by rw [List.length_cons, List.length_cons, FRep.length r]
/-- self.f = e, in a method that has the object for its own -/
def wFld (C : Addr) (i : Nat) (f : Str) (we : EW) : SW := fun E τ => we τ (fun d τ1 => ∃ p dx fs, τ1[i]? = some (.own p (.obj C dx fs)) ∧ fs.length < 1000 ∧ E.nx (τ1.set i (.own p (.obj C dx (putD f d fs))))) E.ex
theorem ds_fld {C : Addr} {i : Nat} {f : Str} {t : TE} {w : EW} (hc : Cls K C) (hn : NoAttr K C f) (h : DE K W t w) : DS K W (sFld K (tVar i) t f) (wFld C i f w) := by
  refine ⟨fun σ H τ F Dn E S hw o => h.run σ H τ F _ _ E.ex S hw (fun v d τ1 F1 H1 t1 r1 ⟨p, dx, fs, e0, hl, hq⟩ => ?_) o.xto⟩
  obtain ⟨s0, f0, ob, h0, r0⟩ := own_at t1.ok e0
  cases r0 with
  | @obj _ _ vs _ r0 =>
    refine ⟨.ref p, s0, p, C, dx, vs, rfl, h0, hc, hn, by rw [r0.length]; exact hl, ?_⟩
    exact o.nx σ _ F1 _ (to_change t1 e0 (.obj (frep_put r1 r0))) hq
/-- an instance whose fields nobody looks at -/
structure InsTy (K : PySem.W.Frag) (C : Addr) : Prop where
  cl : Cls K C
  ha : PySem.W.findIn K (.ref C) "__class__" = some (some (.builtin "object.__class__"))
  hn : PySem.W.specialIn K (.builtin "object.__class__") "__get__" = some (some (.builtin "getset_descriptor.__get__"))
  ht : PySem.W.takesIn K (.builtin "object.__class__") = some true
  hm : PySem.W.mroIn K C (.type "object") = some true
def wMkO (C : Addr) (n : Nat) (fs : FS) (wa : AW) : EW := fun τ q e => wa τ (fun ds τ' => ds.length = n ∧ ∀ x dx, fs (.own x (.obj C dx []) :: ds.map .dat) (fun d cs' => d = .non ∧ (∃ gs, cs'[0]? = some (.own x (.obj C dx gs))) ∧ q (.oth (.ref C)) τ') noX) e
theorem reps_slots {F : Hp} : ∀ {vs : List V} {ds : List D}, Reps K F vs ds → ∀ (i : Nat) (s : Option V) (c : Cell), (vs.map some)[i]? = some s → (ds.map Cell.dat)[i]? = some c → SlotOk K F s c
  | _, _, .nil, i, s, c, h, _ => by simp at h
  | _, _, .cons r t, 0, s, c, h, h' => by
    cases h
    cases h'
    exact ⟨_, rfl, r⟩
  | _, _, .cons r t, i + 1, s, c, h, h' => reps_slots t i s c (by simpa using h) (by simpa using h')
theorem no_own_dat {ds : List D} {i : Nat} {p : Addr} {c : Cont} (h : (ds.map Cell.dat)[i]? = some (.own p c)) : False := by
  rw [List.getElem?_map] at h
  cases e : ds[i]? with
  | none => rw [e] at h; cases h
  | some d => rw [e] at h; cases h
theorem de_makeO {C : Addr} {n : Nat} {fs : FS} {t : TA} {w : AW} (c : InsTy K C) (h : DA K W t w) : DE K W (tMake C (spOf K (n + 1) fs) [] (fun _ _ _ => False) t) (wMkO C n fs w) := by
  refine ⟨fun σ H τ F Q q e S hw k x => h.run σ H τ F _ _ e S hw (fun vs ds τ' F' H' t' r ⟨hl, hf⟩ a dx ha hdx hne => ?_) x⟩
  have fa := new_not_data t'.ok ha
  have fdx := new_not_data t'.ok hdx
  have ha1 : (upd H' dx (.own a)) a = none := by rw [upd_ne (fun z => hne z.symm)]; exact ha
  have s2 : Same F' (upd (upd H' dx (.own a)) a (.ins C dx [])) := fun b o e => by
    rw [upd_ne (fun z => by rw [z, fa] at e; cases e), upd_ne (fun z => by rw [z, fdx] at e; cases e)]
    exact t'.ok.sub b o e
  have own0 : ∀ {i : Nat} {p : Addr} {g : Cont}, (Cell.own a (.obj C dx []) :: ds.map Cell.dat)[i]? = some (.own p g) → i = 0 ∧ p = a ∧ g = .obj C dx [] := fun {i p g} e => by
    cases i with
    | zero => cases e; exact ⟨rfl, rfl, rfl⟩
    | succ i => exact (no_own_dat (ds := ds) (i := i) (p := p) (c := g) (by simpa only [List.getElem?_cons_succ] using e)).elim
  refine ⟨by simp [r.length, hl], F', .own a (.obj C dx []) :: ds.map .dat, _, _, ⟨⟨tabs_new ha1 (tabs_new hdx t'.ok.tabs.1), t'.ok.tabs.2⟩, s2, by simp [r.length], fun i s cc h1 h2 => ?_, fun i p g e => ?_, fun i j p g g' e1 e2 => ?_⟩, hf a dx, fun v d cs' F3 H3 x3 s3 c3 r3 ⟨ed, ⟨gs, e0⟩, hq⟩ => ?_, fun _ _ _ _ _ _ _ _ _ _ z => z⟩
  · cases i with
    | zero => cases h1; cases h2; exact rfl
    | succ i => exact reps_slots r i s cc (by simpa only [List.map_cons, List.getElem?_cons_succ, List.append_nil] using h1) (by simpa only [List.getElem?_cons_succ] using h2)
  · obtain ⟨rfl, rfl, rfl⟩ := own0 e
    exact ⟨fa, _, upd_same, .obj .nil⟩
  · rw [(own0 e1).1, (own0 e2).1]
  · subst ed
    refine ⟨by cases r3; rfl, ?_⟩
    obtain ⟨g', e1, f3, ob, h3, rep⟩ := c3.2 0 a (.obj C dx []) rfl
    rw [e0] at e1
    cases e1
    cases rep with
    | @obj _ _ us _ rep =>
      have e4 : Ext [] F' H' (upd F3 a (.ins C dx us)) H3 := by
        refine ⟨fun b o e => ?_, fun b o e => ?_, fun b o e _ nt => ?_, fun b e => ?_, fun z => ⟨(x3.tabs ⟨tabs_new ha1 (tabs_new hdx z.1), z.2⟩).1, nt_upd nt_ins (x3.tabs ⟨tabs_new ha1 (tabs_new hdx z.1), z.2⟩).2⟩⟩
        · rw [upd_ne (fun z => by rw [z, fa] at e; cases e)]
          exact x3.f b o e
        · by_cases z : b = a
          · subst z; exact .inr (.inl (fr_none ha))
          · rw [upd_ne z] at e
            rcases x3.new b o e with y | y | ⟨i, g, y⟩
            · exact .inl y
            · refine .inr (.inl ?_)
              by_cases z2 : b = dx
              · rw [z2]; exact fr_none hdx
              · exact fun o' e' => y o' (by rw [upd_ne z, upd_ne z2]; exact e')
            · exact absurd (own0 y).2.1 z
        · have n1 : b ≠ a := fun z => by rw [z, ha] at e; cases e
          have n2 : b ≠ dx := fun z => by rw [z, hdx] at e; cases e
          refine x3.keep b o (by rw [upd_ne n1, upd_ne n2]; exact e) (fun ⟨i, g, y⟩ => n1 (own0 y).2.1) nt
        · have y := x3.there b e
          by_cases n1 : b = a
          · rw [n1]; exact fr_none ha
          · by_cases n2 : b = dx
            · rw [n2]; exact fr_none hdx
            · exact fun o' e' => y o' (by rw [upd_ne n1, upd_ne n2]; exact e')
      have sub4 : Same (upd F3 a (.ins C dx us)) H3 := fun b o e => by
        by_cases z : b = a
        · subst z; rw [upd_same] at e; rw [h3]; exact e
        · rw [upd_ne z] at e; exact s3 b o e
      exact k _ _ τ' _ H3 (t'.trans (.small t'.ok e4 sub4)) (.oth (.base (.ins upd_same c.cl c.ha c.hn c.ht c.hm))) hq
end
end L3


/-! ## a lambda that is handed to a def which calls it under try -/
namespace L3
open PySem PySem.Spec PyProof.Rows L2
variable [TB : TabT]
section
variable {K : PySem.W.Frag} {W : WX}
theorem pss_ex {X : Cx} {st : List Stmt} {ι : Type} {P : ι → Prop} {t : ι → TS} (h : ∀ i, P i → PSs X st (t i)) : PSs X st (fun D σ H => ∃ i, P i ∧ (σ.length = X.N.length → t i D σ H)) :=
  ⟨fun pins s σ H D I ⟨i, hp, hq⟩ => (h i hp).run pins s σ H D I (hq I.len)⟩
/-- what a def does that calls what it is handed: "told" and what comes, or what `tell` makes of an own error -/
def toldE (K : PySem.W.Frag) (tell : Addr → List D → Prop) (Q : VK) : XK := fun cls d H' => ∃ (C : Addr) (bs : List Bool), cls = .ref C ∧ d = none ∧ tell C (bs.map D.bl) ∧
  ∀ l p, H' l = none → (upd H' l (.lst (bs.map V.bl))) p = none → Q (.ref p) (upd (upd H' l (.lst (bs.map V.bl))) p (.tup [.str "refused", .ref l, .int 0]))
def toldTT (K : PySem.W.Frag) (tell : Addr → List D → Prop) : (XK → Hp → VK → Prop) → Hp → VK → Prop := fun tl H Q => ∀ (E : XK) (Q' : VK),
  (∀ cls d H', toldE K tell Q cls d H' → E cls d H') → (∀ v H', (∀ p, H' p = none → Q (.ref p) (upd H' p (.tup [.str "told", v]))) → Q' v H') → tl E H Q'
def wTold (tell : Addr → List D → Prop) (w : EW) : EW := fun τ q _ => w τ (fun d τ' => q (.tup [.str "told", d]) τ') (fun x τ' => x.fs = [] ∧ ∃ bs : List Bool, tell x.cls (bs.map D.bl) ∧ q (.tup [.str "refused", .lst (bs.map D.bl), .int 0]) τ')
theorem reps_bls {F : Hp} : ∀ {bs : List Bool}, Reps K F (bs.map V.bl) (bs.map D.bl)
  | [] => .nil
  | b :: bs => .cons (.bl b) (reps_bls (bs := bs))
theorem de_told {tell : Addr → List D → Prop} {t : XK → TE} {w : EW} (h : ∀ E : XK, DE K (fun cls d _ H => E cls d H) (t E) w) : DE K W (LamX.tLam TB.T (toldTT K tell) t) (wTold tell w) := by
  refine ⟨fun σ H τ F Q q e S hw k x => ⟨S.tabs.1, fun H1 hx ht E Q' hE hQ => ?_⟩⟩
  have s1 : Same F H1 := fun a o e => hx a o (S.sub a o e) (S.tabs.2 a o e)
  have x1 : Ext [] F H F H1 := ⟨Same.refl F, fun _ _ e => .inl e, fun a o e _ nt => hx a o e nt, fun a fr o e nt => fr o (hx a o e nt) nt, fun g => ⟨ht, g.2⟩⟩
  have t1 : To K F H σ τ F H1 τ := .small S x1 s1
  refine (h E).run σ H1 τ F Q' _ _ t1.ok hw (fun v d τ' F' H' t' r hq => hQ v H' fun p hp => ?_) (fun y cls dx τ' F' H' t' r hq => hE cls dx H' ?_)
  · obtain ⟨x1, x2⟩ := new_ext (o := .tup [.str "told", v]) t'.ok.sub hp
    exact k _ (.tup [.str "told", d]) τ' _ _ ((t1.trans t').trans (.small t'.ok x1 x2)) (.tup (.inl (.inl upd_same)) (.cons (.str _) (.cons (r.mono (new_same t'.ok.sub hp)) .nil))) hq
  · obtain ⟨hf, bs, ht, hq⟩ := hq
    have dn : dx = none := by
      rcases r.f with z | z
      · exact z.2
      · exact absurd hf z.1
    refine ⟨y.cls, bs, r.c, dn, ht, fun l p hl hp => ?_⟩
    obtain ⟨x1, x2⟩ := new_ext (o := .lst (bs.map V.bl)) t'.ok.sub hl
    have t2 := (t1.trans t').trans (.small t'.ok x1 x2)
    obtain ⟨x3, x4⟩ := new_ext (o := .tup [.str "refused", .ref l, .int 0]) x2 hp
    have sF := new_same (o := .tup [.str "refused", .ref l, .int 0]) x2 hp
    exact k _ (.tup [.str "refused", .lst (bs.map D.bl), .int 0]) τ' _ _ (t2.trans (.small t2.ok x3 x4)) (.tup (.inl (.inl upd_same)) (.cons (.str _) (.cons (.lst (sF _ _ upd_same) reps_bls) (.cons (.int _) .nil)))) hq
end
end L3

/-! ## the frame of a law that hands lambdas about -/
namespace L3
open PySem PySem.Spec PyProof.Rows L2
variable [TB : TabT]
theorem pe_told {X : Cx} {st : Stmt} {x a : Str} {g c P : Addr} {fd : FuncData} {k : Nat} {Ng : List Str} {tell : Addr → List D → Prop} {params : Arguments} {body : Expr} {scope : Scope} {t : XK → TE} {p lpos pos : Pos}
    (F : Fun X.K x x st g fd) (hb : L2.Binds X.K fd [a] []) (hg : Gl X x) (hm : X.mg x = some (.ref g)) (Sg : FnScope Ng [a] (defScope st)) (hNg : Ng[0]? = some a) (hva : Vis (defScope st) a)
    (hG : ∀ cdv, LamX.GivesTo X Ng x (defScope st) g cdv (defBody st) a (X.env.qual ++ "<lambda>") (toldTT X.K tell)) (hT : LamX.TabB X.base X.mg c P) (hcode : X.env.code = .ref c)
    (hmT : (P, X.env.qual ++ Str.ofString "<lambda>") ∈ TB.T) (hu : ∀ p ∈ TB.T, p.1 = P → p.2 = X.env.qual ++ Str.ofString "<lambda>") (hr : Room (k + 2) X.A) (L : LamX.LamS X.env.scope scope) (hdef : defaultsOf params X.env = ([], []))
    (hbind : ∀ (q : Str) (cl : List (Str × Addr)) (pm cv ctv : Value), bindArgs (PySem.W.kla_fn (Str.ofString "<lambda>") q params body scope cl pm cv ctv) {} = pure [])
    (hbody : ∀ (A : Around) (outer : List Env) (s : Shared) (H : Hp) (E : XK) (f c' : Addr), Room k (A.deeper (LamX.lamEnv X scope s.heap.objs.size f c')) → PE (LamX.lamCx X A outer s H E scope f c') body (t E))
    (h1 : (x == Str.ofString "__debug__") = false := by decide) (h2 : (a == Str.ofString "__debug__") = false := by decide) (h3 : (a == Str.ofString "__classdict__") = false := by decide) :
    PE X (.Call (.Name x p) [.Lambda params body scope lpos] [] pos) (LamX.tLam TB.T (toldTT X.K tell) t) := by
  obtain ⟨oc, od, kV, doc, pm, an, cdv, ct, osl, rfl, lk, hcg⟩ := F.ex
  exact LamX.pe_lamcall hg hm F.kp lk hcg hb Sg hNg hva (hG cdv) hT hcode hmT hu hr L hdef hbind hbody h1 h2 h3
/-- a def whose code object is known -/
theorem def_okC {P : Program} {w : World} {K : PySem.W.Frag} {mg : Str → Option Value} {base : Heap} {x qual : Str} {st : Stmt} {f : Addr} {N ps : List Str} {k : Nat} {fs : FS} {wb : SW} {kV doc pm cdv ct oc : Value} {an od : Option Addr} {osl : Array (Option Value)}
    (lk : K.lookup f = some ⟨oc, od, .func (PySem.W.fnOf x qual (defArgs st) (defBody st) (defScope st) .none kV doc pm an cdv ct), osl⟩) (hcd : PySem.W.codeIn K cdv qual = true) (S : FnScope N ps (defScope st))
    (hw : ∀ cs q e, cs.length = ps.length → fs cs q e → wb ⟨fun τ => Keeps cs τ ∧ q .non (ends cs τ), fun d τ => Keeps cs τ ∧ q d (ends cs τ), fun _ _ => False, fun _ => False, fun _ => False, fun x τ => Keeps cs τ ∧ e x (ends cs τ)⟩ (cs ++ List.replicate (N.length - ps.length) .any))
    (hb : ∀ (A : Around) (outer : List Env) (s : Shared) (H : Hp) (E : XK), Room k (A.deeper (envOfC qual (defScope st) s.heap.objs.size f cdv)) → Takes (cxOf (L2.CX P w) P w K mg base N qual (defScope st) f cdv A outer s H E) (fun cls d _ H => E cls d H) →
      ∃ t, PSs (cxOf (L2.CX P w) P w K mg base N qual (defScope st) f cdv A outer s H E) (defBody st) t ∧ DS K (fun cls d _ H => E cls d H) t wb) :
    FnOk P w K mg base (L2.CX P w) (k + 1) f (PySem.W.fnOf x qual (defArgs st) (defBody st) (defScope st) .none kV doc pm an cdv ct) ps (spOf K ps.length fs) := by
  refine fn_of lk hcd S (fun vs H Q E h => h.1) (fun A outer s H vs Q E hr h => ?_)
  obtain ⟨t, h1, h2⟩ := hb A outer s H E hr (takes_of rfl rfl rfl rfl)
  refine ⟨t, h1, ?_⟩
  obtain ⟨hl, F, cs, q, e, S0, hf, kq, ke⟩ := h
  obtain ⟨lcs, S1⟩ := s_ok (N := N) S0 hl
  refine h2.run _ H _ F _ _ S1 (hw cs q e lcs hf) ⟨fun σ' τ' F' H' u ⟨k, hq⟩ => ?_, fun _ _ _ _ _ z => z, fun _ _ _ _ _ z => z, fun v d τ' F' H' u r ⟨k, hq⟩ => ?_, fun σ' x cls dx τ' F' H' u r ⟨k, hq⟩ => ?_, ?_⟩
  · exact kq .non .non _ F' H' u.ext.app u.ok.sub (cs_ok k u.ok.own) .non hq
  · exact kq v d _ F' H' u.ext.app u.sub (cs_ok k u.own) r hq
  · exact ke x cls dx _ F' H' u.ext.app u.ok.sub (cs_ok k u.ok.own) r hq
  · exact fun _ _ _ _ _ _ _ _ _ _ _ _ z => False.elim z
end L3

/-! ## lcm, max -/
namespace L3
open PySem PySem.Spec PyProof.Rows L2
variable [TB : TabT]
section
variable {K : PySem.W.Frag} {W : WX}
def rLcm : List V → Hp → VK → Prop := fun vs H Q => ∃ a b : Int, vs = [.int a, .int b] ∧ a.natAbs < 2 ^ 64 ∧ b.natAbs < 2 ^ 64 ∧ Q (.int ((Nat.lcm a.natAbs b.natAbs : Nat) : Int)) H
theorem cr_lcm {X : Cx} : CallR X (.builtin "math.lcm") rLcm := by
  intro pins s σ H vs us Q I r h
  obtain ⟨a, b, rfl, ha, hb, q⟩ := h
  obtain ⟨t, u, rfl⟩ := Vals.int2 r
  exact PySem.W.mc_lcm ha hb fun _ => ⟨.int _, H, I.tok (s.toks + 1), ⟨s.toks, rfl⟩, q⟩
def gLcm : List D → (D → Prop) → Prop := fun ds q => ∃ i j : Int, ds = [.int i, .int j] ∧ i.natAbs < 2 ^ 64 ∧ j.natAbs < 2 ^ 64 ∧ q (.int ((Nat.lcm i.natAbs j.natAbs : Nat) : Int))
theorem o_lcm : OpN K rLcm gLcm := by
  rintro F H xs ds q Q s r ⟨i, j, rfl, hi, hj, hq⟩ k
  obtain ⟨v, v', rfl, r1, r2⟩ := r.two
  exact ⟨i, j, by rw [r1.int_of, r2.int_of], hi, hj, k _ _ F H (.refl _ _ _) s (.int _) hq⟩
def mxI (a b : Int) : Int := if b > a then b else a
def rMax2 : List V → Hp → VK → Prop := fun xs H Q => ∃ i j, xs = [V.int i, V.int j] ∧ Q (V.int (if j > i then j else i)) H
def gMax2 : List D → (D → Prop) → Prop := fun ds q => ∃ i j : Int, ds = [.int i, .int j] ∧ q (.int (mxI i j))
theorem o_max2 : OpN K rMax2 gMax2 := by
  rintro F H xs ds q Q s r ⟨i, j, rfl, hq⟩ k
  obtain ⟨v, v', rfl, r1, r2⟩ := r.two
  exact ⟨i, j, by rw [r1.int_of, r2.int_of], k _ _ F H (.refl _ _ _) s (.int _) hq⟩
theorem nuMax3_int (a b c : Int) : nuMax3 (.int a) (.int b) (.int c) = some (.int (mxI (mxI a b) c)) := by
  have two : ∀ x y : Int, nuMax2 (.int x) (.int y) = some (.int (mxI x y)) := fun x y => by
    show Option.map (fun c => if c = true then V.int y else V.int x) (nuLt (.int x) (.int y)) = _
    have : nuLt (.int x) (.int y) = some (decide (x < y)) := rfl
    rw [this]
    unfold mxI
    by_cases h : x < y
    · simp [h]
    · simp [h]
  show (nuMax2 (.int a) (.int b)).bind _ = _
  rw [two]
  exact two _ _
def gMax3 : List D → (D → Prop) → Prop := fun ds q => ∃ i j l : Int, ds = [.int i, .int j, .int l] ∧ q (.int (mxI (mxI i j) l))
theorem o_max3 : OpN K (rNuC3 nuMax3) gMax3 := by
  rintro F H xs ds q Q s r ⟨i, j, l, rfl, hq⟩ k
  cases r with
  | cons r1 r =>
    obtain ⟨v, v', rfl, r2, r3⟩ := r.two
    exact ⟨.int i, .int j, .int l, _, by rw [r1.int_of, r2.int_of, r3.int_of], nuMax3_int i j l, k _ _ F H (.refl _ _ _) s (.int _) hq⟩
end
end L3

/-! ## instances as data, errors with a field -/
namespace L3
open PySem PySem.Spec PyProof.Rows L2
variable [TB : TabT]
/-- an error that is made, and a field of it read -/
def tMkF (K : PySem.W.Frag) (t : L2.St → Hp → XK → Prop) (f : Str) : TE := fun σ H Q => t σ H fun cls d H1 => ∃ (C dd : Addr) (fs : List (Str × V)) (v : V), cls = .ref C ∧ d = some dd ∧ H1 dd = some (.xd fs) ∧ L2.XfC K C ∧ PySem.W.findIn K (.ref C) f = some none ∧ fs.lookup f = some v ∧ Q v H1
theorem pe_mkf {X : Cx} {e : Expr} {t : L2.St → Hp → XK → Prop} {n : Str} {pos : Pos} (he : PMk X e t) (hb : attributeBase e n X.env (eval e X.env) = eval e X.env := by rfl) : PE X (.Attribute e n pos) (tMkF X.K t n) := by
  refine ⟨fun pins s σ H Q I h => ?_⟩
  refine attr_of hb (thn (he pins s σ H _ I h) fun u s1 hh => ?_)
  obtain ⟨a, oe, vs, sI, H', cls, d, rfl, J, k, hne, ha, hz, hd, h1, na, os, ag, r, q⟩ := hh
  obtain ⟨C, dd, fs, v, rfl, rfl, ea, T, hno, l, q⟩ := q
  have J2 : Inv X pins σ H' s1 := J.call' (ch := []) os (Un.kept k) (J.hok.kept k) ag (fun b z => absurd z (by simp))
  have hx : ObjOk X.prog X.w H' s1.heap dd (.xd fs) := J2.hok dd _ ea
  obtain ⟨mA, hns, hr⟩ := hx
  obtain ⟨od, ho, hl⟩ := lookIn_ns hns
  obtain ⟨u, hu, ru⟩ := RelO.some_of (v := v) (o := mA n) (by rw [← l]; exact hr n)
  have I4 : PySem.W.InstAt s1.heap a oe C (some od) := ⟨ha, hz.1, by unfold PySem.W.notCls; rw [hd] <;> rfl, by rw [hz.2]; exact ho⟩
  exact HandSPX.exc_get J2.kIn I4 T.ga T.gg T.exC (PySem.W.findObj_own T.hdC hno rfl (by rw [hl, hu])) (handed_of ru) ⟨v, H', J2.tok _, ru, q⟩
/-- isinstance(e, c), e the caught error, which has a dict -/
def rIsE1 (K : PySem.W.Frag) (D a : Addr) (d : Option Addr) : List V → Hp → VK → Prop := fun xs H Q => ∃ (c : V) (cv : Value) (b : Bool) (dd : Addr) (fs : List (Str × V)), xs = [.ref a, c] ∧ (∀ u, RelV c u → u = cv) ∧ PySem.W.kitOne K (.ref D) cv = some b ∧ d = some dd ∧ H dd = some (.xd fs) ∧ Q (.bl b) H
theorem call_isE1 {X : Cx} {a D : Addr} {d : Option Addr} {oe : Obj} {pn : List (Addr × Obj)} (C : ExcC X.K D) (hz : Zc (.ref D) d oe) (hf : ∃ vs, oe.data = .fields vs) : CallR (X.suite a ((a, oe) :: pn)) (.builtin "isinstance") (rIsE1 X.K D a d) := by
  intro pins s σ H xs us Q I r h
  obtain ⟨c, cv, b, dd, fs, rfl, hcv, e, rfl, hdd, q⟩ := h
  cases r with
  | cons rx rr =>
    cases rr with
    | cons rt rr =>
      cases rr
      cases rx
      have ec := hcv _ rt
      subst ec
      obtain ⟨hget, _⟩ := I.pin (a, oe) (List.mem_append.mpr (.inl List.mem_cons_self))
      obtain ⟨vs, hv⟩ := hf
      have hx : ObjOk X.prog X.w H s.heap dd (.xd fs) := I.hok dd _ hdd
      obtain ⟨mA, hns, hr⟩ := hx
      obtain ⟨od, ho, hl⟩ := lookIn_ns hns
      have J : PySem.W.InstAt s.heap a oe D (some od) := ⟨hget, hz.1, by unfold PySem.W.notCls; rw [hv] <;> rfl, by rw [hz.2]; exact ho⟩
      have hcl : (PySem.W.clsIn X.K D).isSome = true := by
        obtain ⟨cd, hc, _⟩ := PySem.W.any_some C.hd
        rw [hc]
        rfl
      exact PySem.W.kia_one (PySem.W.kitx_exc hcl C.hg C.hk C.hs C.ha C.hn C.ht C.hm) I.kIn J e (fun z => nomatch z) fun tk => ⟨.bl b, H, I.kept (t' := tk) fun _ _ z => z, rfl, q⟩
section
variable {K : PySem.W.Frag} {W : WX}
theorem FRep.lookup {F : Hp} {f : Str} {d : D} : ∀ {vs : List (Str × V)} {ds : List (Str × D)}, FRep K F vs ds → ds.lookup f = some d → ∃ v, vs.lookup f = some v ∧ Rep K F v d
  | _, _, .nil, e => by simp at e
  | _, _, .cons (f := g) (v := u) r t, e => by
    unfold List.lookup at e ⊢
    cases h : f == g with
    | true =>
      rw [h] at e
      cases e
      exact ⟨u, rfl, r⟩
    | false =>
      rw [h] at e
      exact FRep.lookup t e
/-- e.f of an instance -/
def wAttr (C : Addr) (f : Str) (we : EW) : EW := fun τ q e => we τ (fun d τ' => ∃ gs v, d = .ins C gs ∧ gs.lookup f = some v ∧ q v τ') e
theorem de_fld {C : Addr} {f : Str} {t : TE} {w : EW} (hc : Cls K C) (hn : NoAttr K C f) (h : DE K W t w) : DE K W (tFld K t f) (wAttr C f w) := by
  refine ⟨fun σ H τ F Q q e S hw k x => h.run σ H τ F _ _ e S hw (fun v d τ1 F1 H1 t1 r1 ⟨gs, y, ed, el, hq⟩ => ?_) x⟩
  subst ed
  cases r1 with
  | ins ha hr =>
    obtain ⟨u, e1, r2⟩ := hr.lookup el
    exact ⟨_, _, _, _, u, rfl, t1.ok.sub _ _ ha, hc, hn, e1, k u y τ1 F1 H1 t1 r2 hq⟩
/-- an instance that is made, and is data from then on -/
def wMkI (C : Addr) (n : Nat) (fs : FS) (wa : AW) : EW := fun τ q e => wa τ (fun ds τ' => ds.length = n ∧ ∀ x dx, fs (.own x (.obj C dx []) :: ds.map .dat) (fun d cs' => d = .non ∧ ∃ gs, cs'[0]? = some (.own x (.obj C dx gs)) ∧ q (.ins C gs) τ') (fun y _ => e y τ')) e
theorem passF {X : Cx} {E : XK} (tk : Takes X (fun cls d _ H => E cls d H)) : Passes (L2.CX X.prog X.w) X E := fun pins σ H s e s' I c => passAt tk σ pins H s e s' I c
theorem ext_make {F' H' F3 H3 : Hp} {a dx C : Addr} {cs : List Cell} (ha : H' a = none) (hdx : H' dx = none) (hne : dx ≠ a) (own0 : ∀ p, IsOwn cs p → p = a) (x3 : Ext cs F' (upd (upd H' dx (.own a)) a (.ins C dx [])) F3 H3) : Ext [] F' H' F3 H3 := by
  have ha1 : (upd H' dx (.own a)) a = none := by rw [upd_ne (fun z => hne z.symm)]; exact ha
  have fr : ∀ b, Fr (upd (upd H' dx (.own a)) a (.ins C dx [])) b → Fr H' b := fun b y => by
    by_cases n1 : b = a
    · rw [n1]; exact fr_none ha
    · by_cases n2 : b = dx
      · rw [n2]; exact fr_none hdx
      · exact fun o' e' => y o' (by rw [upd_ne n1, upd_ne n2]; exact e')
  refine ⟨x3.f, fun b o e => ?_, fun b o e _ nt => ?_, fun b e => fr b (x3.there b e), fun z => x3.tabs ⟨tabs_new ha1 (tabs_new hdx z.1), z.2⟩⟩
  · rcases x3.new b o e with y | y | y
    · exact .inl y
    · exact .inr (.inl (fr b y))
    · rw [own0 b y]; exact .inr (.inl (fr_none ha))
  · have n1 : b ≠ a := fun z => by rw [z, ha] at e; cases e
    have n2 : b ≠ dx := fun z => by rw [z, hdx] at e; cases e
    exact x3.keep b o (by rw [upd_ne n1, upd_ne n2]; exact e) (fun y => n1 (own0 b y)) nt
theorem de_makeI {C : Addr} {n : Nat} {fs : FS} {E : XK} {t : TA} {w : AW} (h : DA K (fun cls d _ H => E cls d H) t w) : DE K (fun cls d _ H => E cls d H) (tMake C (spOf K (n + 1) fs) [] E t) (wMkI C n fs w) := by
  refine ⟨fun σ H τ F Q q e S hw k x => h.run σ H τ F _ _ e S hw (fun vs ds τ' F' H' t' r ⟨hl, hf⟩ a dx ha hdx hne => ?_) x⟩
  have fa := new_not_data t'.ok ha
  have fdx := new_not_data t'.ok hdx
  have ha1 : (upd H' dx (.own a)) a = none := by rw [upd_ne (fun z => hne z.symm)]; exact ha
  have s2 : Same F' (upd (upd H' dx (.own a)) a (.ins C dx [])) := fun b o e => by
    rw [upd_ne (fun z => by rw [z, fa] at e; cases e), upd_ne (fun z => by rw [z, fdx] at e; cases e)]
    exact t'.ok.sub b o e
  have own0 : ∀ {i : Nat} {p : Addr} {g : Cont}, (Cell.own a (.obj C dx []) :: ds.map Cell.dat)[i]? = some (.own p g) → i = 0 ∧ p = a ∧ g = .obj C dx [] := fun {i p g} e => by
    cases i with
    | zero => cases e; exact ⟨rfl, rfl, rfl⟩
    | succ i => exact (no_own_dat (ds := ds) (i := i) (p := p) (c := g) (by simpa only [List.getElem?_cons_succ] using e)).elim
  have own1 : ∀ p, IsOwn (Cell.own a (.obj C dx []) :: ds.map Cell.dat) p → p = a := fun p ⟨i, g, y⟩ => (own0 y).2.1
  refine ⟨by simp [r.length, hl], F', .own a (.obj C dx []) :: ds.map .dat, _, _, ⟨⟨tabs_new ha1 (tabs_new hdx t'.ok.tabs.1), t'.ok.tabs.2⟩, s2, by simp [r.length], fun i s cc h1 h2 => ?_, fun i p g e => ?_, fun i j p g g' e1 e2 => ?_⟩, hf a dx, fun v d cs' F3 H3 x3 s3 c3 r3 ⟨ed, gs, e0, hq⟩ => ?_, fun y cls dx' cs' F3 H3 x3 s3 c3 r3 hq => ?_⟩
  · cases i with
    | zero => cases h1; cases h2; exact rfl
    | succ i => exact reps_slots r i s cc (by simpa only [List.map_cons, List.getElem?_cons_succ, List.append_nil] using h1) (by simpa only [List.getElem?_cons_succ] using h2)
  · obtain ⟨rfl, rfl, rfl⟩ := own0 e
    exact ⟨fa, _, upd_same, .obj .nil⟩
  · rw [(own0 e1).1, (own0 e2).1]
  · subst ed
    refine ⟨by cases r3; rfl, ?_⟩
    obtain ⟨g', e1, f3, ob, h3, rep⟩ := c3.2 0 a (.obj C dx []) rfl
    rw [e0] at e1
    cases e1
    cases rep with
    | @obj _ _ us _ rep =>
      have e5 := ext_make ha hdx hne own1 x3
      have s6 : Same F3 (upd F3 a (.ins C dx us)) := fun b o e => by rw [upd_ne (fun z => by rw [z, f3] at e; cases e)]; exact e
      have e4 : Ext [] F' H' (upd F3 a (.ins C dx us)) H3 := by
        refine ⟨fun b o e => s6 b o (e5.f b o e), fun b o e => ?_, e5.keep, e5.there, fun z => ⟨(e5.tabs z).1, nt_upd nt_ins (e5.tabs z).2⟩⟩
        by_cases z : b = a
        · rw [z]; exact .inr (.inl (fr_none ha))
        · rw [upd_ne z] at e
          exact e5.new b o e
      have sub4 : Same (upd F3 a (.ins C dx us)) H3 := fun b o e => by
        by_cases z : b = a
        · subst z; rw [upd_same] at e; rw [h3]; exact e
        · rw [upd_ne z] at e; exact s3 b o e
      exact k _ _ τ' _ H3 (t'.trans (.small t'.ok e4 sub4)) (.ins upd_same (rep.mono s6)) hq
  · exact x y cls dx' τ' F3 H3 (t'.trans (.small t'.ok (ext_make ha hdx hne own1 x3) s3)) r3 hq
/-! ### an error with one field -/
def spX1 (K : PySem.W.Frag) (C : Addr) (f : Str) : Sp := fun vs H Q _ => ∃ (a : Addr) (v : V), vs = [.ref a, v] ∧ H a = some (exo a C none) ∧ ∀ dx, H dx = none → dx ≠ a → Q .non (upd (upd H dx (exd dx [(f, v)])) a (exo a C (some dx)))
theorem exc1_ok {P : Program} {w : World} {mg : Str → Option Value} {base : Heap} {x qual f : Str} {st : Stmt} {fa C : Addr} {fd : FuncData} {p1 p2 p3 p4 : Pos} (Fn : Fun K x qual st fa fd) (S : FnScope ["self", f] ["self", f] (defScope st))
    (hb : defBody st = [.Assign [.Attribute (.Name "self" p1) f p2] (.Name f p3) p4]) (hf : ("self" : Str) ≠ f)
    (hs : ∀ X : Cx, swapsWith (.Name f p3) (some (.Attribute (.Name "self" p1) f p2)) p4.line X.env = pure false) (T : OexC K C) (hno : PySem.W.findIn K (.ref C) f = some none)
    (hp : ∀ (cdv : Value) (A : Around) (outer : List Env) (s : Shared) (H : Hp) (E : XK), PE (cxOf (L2.CX P w) P w K mg base ["self", f] qual (defScope st) fa cdv A outer s H E) (.Name "self" p1) (tVar 0) ∧ PE (cxOf (L2.CX P w) P w K mg base ["self", f] qual (defScope st) fa cdv A outer s H E) (.Name f p3) (tVar 1)) :
    FnOk P w K mg base (L2.CX P w) 1 fa fd ["self", f] (spX1 K C f) := by
  refine Fn.okX S (fun vs H Q E ⟨a, v, e, _⟩ => by rw [e]; rfl) (fun cdv A outer s H vs Q E hr h => ?_)
  obtain ⟨h0, h1⟩ := hp cdv A outer s H E
  obtain ⟨a, v, rfl, ha, hq⟩ := h
  rw [hb]
  refine ⟨_, pss_one (ps_ost (hs := hs _) h0 h1), ?_⟩
  exact ⟨v, rfl, .ref a, rfl, a, C, rfl, T, hno, .inl ⟨ha, fun dx h1 h2 => hq dx h1 h2⟩⟩
def wRaise1 (C : Addr) (f : Str) (we : EW) : SW := fun E τ => we τ (fun d τ' => E.ex ⟨C, [(f, d)]⟩ τ') E.ex
theorem del_back {H1 : Hp} {a d C : Addr} {fs : List (Str × V)} (ha : H1 a = none) (hda : d ≠ a) : upd (del (upd (upd (upd H1 a (exo a C none)) d (exd d fs)) a (exo a C (some d))) a) d (.xd fs) = upd H1 d (.xd fs) := by
  funext b
  by_cases h1 : b = d
  · rw [h1, upd_same, upd_same]
  · rw [upd_ne h1, upd_ne h1]
    by_cases h2 : b = a
    · rw [h2, del_same, ha]
    · rw [del_ne h2, upd_ne h2, upd_ne h1, upd_ne h2]
/-- what stands behind the making of such an error -/
theorem mk1_run {C : Addr} {f : Str} {v : V} {d : D} {F H : Hp} {σ : L2.St} {τ : List Cell} {Q : XK} (S : SOk K F H σ τ) (r : Rep K F v d)
    (h : ∀ dx, To K F H σ τ F (upd H dx (.xd [(f, v)])) τ → Q (.ref C) (some dx) (upd H dx (.xd [(f, v)]))) :
    [v].length ≤ 1000 ∧ ∀ a, H a = none → spX1 K C f (.ref a :: ([v] ++ [])) (upd H a (exo a C none))
      (fun u H2 => u = .non ∧ ∃ (d : Addr) (fs : List (Str × V)), H2 a = some (exo a C (some d)) ∧ H2 d = some (exd d fs) ∧ H d = none ∧ Q (.ref C) (some d) (upd (del H2 a) d (.xd fs))) (fun _ _ _ => False) := by
  refine ⟨by simp, fun a ha => ⟨a, v, rfl, upd_same, fun dx hd hne => ⟨rfl, dx, [(f, v)], upd_same, ?_, ?_, ?_⟩⟩⟩
  · rw [upd_ne hne, upd_same]
  · rw [upd_ne hne] at hd; exact hd
  · rw [del_back ha hne]
    rw [upd_ne hne] at hd
    refine h dx (.small S (Ext.laid0 hd) fun b o e => ?_)
    rw [upd_ne (fun z => by rw [z, new_not_data S hd] at e; cases e)]
    exact S.sub b o e
theorem ds_raise1 {C : Addr} {f : Str} {t : TE} {w : EW} (h : DE K W t w) : DS K W (fun _ σ H => tMkO C (spX1 K C f) [] (tCons t tNil) σ H fun cls d H' => W cls d σ H') (wRaise1 C f w) := by
  refine ⟨fun σ H τ F Dn E S hw o => h.run σ H τ F _ _ E.ex S hw (fun v d τ1 F1 H1 t1 r1 hq => ?_) o.xto⟩
  refine mk1_run (C := C) (f := f) (Q := fun cls d H' => W cls d σ H') t1.ok r1 fun dx t2 => ?_
  exact o.ex σ ⟨C, [(f, d)]⟩ _ (some dx) τ1 F1 _ (t1.trans t2) ⟨rfl, .inr ⟨by simp, dx, _, rfl, upd_same, .cons r1 .nil⟩⟩ hq
/-- the field of an error that is made -/
def wMkF (f : Str) (we : EW) : EW := fun τ q e => we τ q e
theorem de_mkf {C : Addr} {f : Str} {t : TE} {w : EW} (T : L2.XfC K C) (hno : PySem.W.findIn K (.ref C) f = some none) (h : DE K W t w) : DE K W (tMkF K (tMkO C (spX1 K C f) [] (tCons t tNil)) f) (wMkF f w) := by
  refine ⟨fun σ H τ F Q q e S hw k x => h.run σ H τ F _ _ e S hw (fun v d τ1 F1 H1 t1 r1 hq => ?_) x⟩
  refine mk1_run (C := C) (f := f) (Q := fun cls d H1 => ∃ (C dd : Addr) (fs : List (Str × V)) (v : V), cls = .ref C ∧ d = some dd ∧ H1 dd = some (.xd fs) ∧ L2.XfC K C ∧ PySem.W.findIn K (.ref C) f = some none ∧ fs.lookup f = some v ∧ Q v H1) t1.ok r1 fun dx t2 => ?_
  refine ⟨C, dx, _, v, rfl, rfl, upd_same, T, hno, by simp [List.lookup], ?_⟩
  exact k v d τ1 F1 _ (t1.trans t2) r1 hq
/-! ### what a def does that calls what it is handed, and an error with a field comes -/
def toldE1 (K : PySem.W.Frag) (f : Str) (tell : Addr → List D → Prop) (Q : VK) : XK := fun cls d H' => ∃ (C dd : Addr) (vs : List (Str × V)) (v : V) (bs : List Bool), cls = .ref C ∧ d = some dd ∧ H' dd = some (.xd vs) ∧ vs.lookup f = some v ∧ tell C (bs.map D.bl) ∧
  ∀ l p, H' l = none → (upd H' l (.lst (bs.map V.bl))) p = none → Q (.ref p) (upd (upd H' l (.lst (bs.map V.bl))) p (.tup [.str "refused", .ref l, v]))
def toldTT1 (K : PySem.W.Frag) (f : Str) (tell : Addr → List D → Prop) : (XK → Hp → VK → Prop) → Hp → VK → Prop := fun tl H Q => ∀ (E : XK) (Q' : VK),
  (∀ cls d H', toldE1 K f tell Q cls d H' → E cls d H') → (∀ v H', (∀ p, H' p = none → Q (.ref p) (upd H' p (.tup [.str "told", v]))) → Q' v H') → tl E H Q'
def wTold1 (f : Str) (tell : Addr → List D → Prop) (w : EW) : EW := fun τ q _ => w τ (fun d τ' => q (.tup [.str "told", d]) τ') (fun x τ' => ∃ v, x.fs = [(f, v)] ∧ ∃ bs : List Bool, tell x.cls (bs.map D.bl) ∧ q (.tup [.str "refused", .lst (bs.map D.bl), v]) τ')
theorem de_told1 {f : Str} {tell : Addr → List D → Prop} {t : XK → TE} {w : EW} (h : ∀ E : XK, DE K (fun cls d _ H => E cls d H) (t E) w) : DE K W (LamX.tLam TB.T (toldTT1 K f tell) t) (wTold1 f tell w) := by
  refine ⟨fun σ H τ F Q q e S hw k x => ⟨S.tabs.1, fun H1 hx ht E Q' hE hQ => ?_⟩⟩
  have s1 : Same F H1 := fun a o e => hx a o (S.sub a o e) (S.tabs.2 a o e)
  have x1 : Ext [] F H F H1 := ⟨Same.refl F, fun _ _ e => .inl e, fun a o e _ nt => hx a o e nt, fun a fr o e nt => fr o (hx a o e nt) nt, fun g => ⟨ht, g.2⟩⟩
  have t1 : To K F H σ τ F H1 τ := .small S x1 s1
  refine (h E).run σ H1 τ F Q' _ _ t1.ok hw (fun v d τ' F' H' t' r hq => hQ v H' fun p hp => ?_) (fun y cls dx τ' F' H' t' r hq => hE cls dx H' ?_)
  · obtain ⟨x1, x2⟩ := new_ext (o := .tup [.str "told", v]) t'.ok.sub hp
    exact k _ (.tup [.str "told", d]) τ' _ _ ((t1.trans t').trans (.small t'.ok x1 x2)) (.tup (.inl (.inl upd_same)) (.cons (.str _) (.cons (r.mono (new_same t'.ok.sub hp)) .nil))) hq
  · obtain ⟨d, hf, bs, ht, hq⟩ := hq
    rcases r.f with z | ⟨_, dd, vs, rfl, hd, fr⟩
    · rw [hf] at z; cases z.1
    rw [hf] at fr
    obtain ⟨v, e1, rv⟩ := fr.lookup (f := f) (d := d) (by simp [List.lookup])
    refine ⟨y.cls, dd, vs, v, bs, r.c, rfl, hd, e1, ht, fun l p hl hp => ?_⟩
    obtain ⟨x1, x2⟩ := new_ext (o := .lst (bs.map V.bl)) t'.ok.sub hl
    have sL := new_same (o := .lst (bs.map V.bl)) t'.ok.sub hl
    have t2 := (t1.trans t').trans (.small t'.ok x1 x2)
    obtain ⟨x3, x4⟩ := new_ext (o := .tup [.str "refused", .ref l, v]) x2 hp
    have sF := new_same (o := .tup [.str "refused", .ref l, v]) x2 hp
    exact k _ (.tup [.str "refused", .lst (bs.map D.bl), d]) τ' _ _ (t2.trans (.small t2.ok x3 x4)) (.tup (.inl (.inl upd_same)) (.cons (.str _) (.cons (.lst (sF _ _ upd_same) reps_bls) (.cons ((rv.mono sL).mono sF) .nil)))) hq
end
theorem pe_toldG {TT : (XK → Hp → VK → Prop) → Hp → VK → Prop} {X : Cx} {st : Stmt} {x a : Str} {g c P : Addr} {fd : FuncData} {k : Nat} {Ng : List Str} {params : Arguments} {body : Expr} {scope : Scope} {t : XK → TE} {p lpos pos : Pos}
    (F : Fun X.K x x st g fd) (hb : L2.Binds X.K fd [a] []) (hg : Gl X x) (hm : X.mg x = some (.ref g)) (Sg : FnScope Ng [a] (defScope st)) (hNg : Ng[0]? = some a) (hva : Vis (defScope st) a)
    (hG : ∀ cdv, LamX.GivesTo X Ng x (defScope st) g cdv (defBody st) a (X.env.qual ++ "<lambda>") TT) (hT : LamX.TabB X.base X.mg c P) (hcode : X.env.code = .ref c)
    (hmT : (P, X.env.qual ++ Str.ofString "<lambda>") ∈ TB.T) (hu : ∀ p ∈ TB.T, p.1 = P → p.2 = X.env.qual ++ Str.ofString "<lambda>") (hr : Room (k + 2) X.A) (L : LamX.LamS X.env.scope scope) (hdef : defaultsOf params X.env = ([], []))
    (hbind : ∀ (q : Str) (cl : List (Str × Addr)) (pm cv ctv : Value), bindArgs (PySem.W.kla_fn (Str.ofString "<lambda>") q params body scope cl pm cv ctv) {} = pure [])
    (hbody : ∀ (A : Around) (outer : List Env) (s : Shared) (H : Hp) (E : XK) (f c' : Addr), Room k (A.deeper (LamX.lamEnv X scope s.heap.objs.size f c')) → PE (LamX.lamCx X A outer s H E scope f c') body (t E))
    (h1 : (x == Str.ofString "__debug__") = false := by decide) (h2 : (a == Str.ofString "__debug__") = false := by decide) (h3 : (a == Str.ofString "__classdict__") = false := by decide) :
    PE X (.Call (.Name x p) [.Lambda params body scope lpos] [] pos) (LamX.tLam TB.T TT t) := by
  obtain ⟨oc, od, kV, doc, pm, an, cdv, ct, osl, rfl, lk, hcg⟩ := F.ex
  exact LamX.pe_lamcall hg hm F.kp lk hcg hb Sg hNg hva (hG cdv) hT hcode hmT hu hr L hdef hbind hbody h1 h2 h3
/-! ### a chain of three comparisons -/
def tChain3 (r r' r'' : R2) (ta tb tc td : TE) : TE := fun σ H Q => ta σ H fun x H1 => tb σ H1 fun y H2 => r x y H2 fun z H3 => ∃ k, z = .bl k ∧
  (if k = true then tc σ H3 fun w' H4 => r' y w' H4 fun z' H5 => ∃ k', z' = .bl k' ∧ (if k' = true then td σ H5 fun w2 H6 => r'' w' w2 H6 Q else Q (.bl false) H5) else Q (.bl false) H3)
theorem pe_chain3 {X : Cx} {a b c d : Expr} {ta tb tc td : TE} {pos : Pos} {op op' op'' : CmpOp} {r r' r'' : R2} (ho : OpR X (compareOp op) r) (ho' : OpR X (compareOp op') r') (ho'' : OpR X (compareOp op'') r'') (ha : PE X a ta) (hb : PE X b tb) (hc : PE X c tc) (hd : PE X d td)
    (hm : lastMarks [op, op', op''] [b, c, d] = false := by with_unfolding_all rfl) : PE X (.Compare a [op, op', op''] [b, c, d] pos) (tChain3 r r' r'' ta tb tc td) := by
  refine ⟨fun pins s σ H Q I h => ?_⟩
  refine Compare_chain (thn (ha.run pins s σ H _ I h) fun v s1 ⟨x, H1, I1, r1, q1⟩ => chain_link (thn (hb.run pins s1 σ H1 _ I1 q1) fun u s2 ⟨y, H2, I2, r2, q2⟩ =>
    thn (ho pins s2 σ H2 x y v u _ I2 r1 r2 q2) fun d s3 ⟨z, H3, I3, r3, k, e, q3⟩ => ?_)) hm
  subst e
  cases r3
  refine wpAny_truthy_bool ?_
  cases k with
  | false => exact ite_ff ⟨.bl false, H3, I3, rfl, q3⟩
  | true =>
    refine ite_tt (chain_link (thn (hc.run pins s3 σ H3 _ I3 q3) fun w' s4 ⟨z', H4, I4, r4, q4⟩ => thn (ho' pins s4 σ H4 y z' u w' _ I4 r2 r4 q4) fun d' s5 ⟨z2, H5, I5, r5, k2, e2, q5⟩ => ?_))
    subst e2
    cases r5
    refine wpAny_truthy_bool ?_
    cases k2 with
    | false => exact ite_ff ⟨.bl false, H5, I5, rfl, q5⟩
    | true => exact ite_tt (chain_last (thn (hd.run pins s5 σ H5 _ I5 q5) fun w2 s6 ⟨z3, H6, I6, r6, q6⟩ => ho'' pins s6 σ H6 z' z3 w' w2 Q I6 r4 r6 q6))
section
variable {K : PySem.W.Frag} {W : WX}
def wChain3 (g g' g'' : D → D → (D → Prop) → Prop) (wa wb wc wd : EW) : EW := fun τ q e => wa τ (fun d1 τ1 => wb τ1 (fun d2 τ2 => g d1 d2 fun d => ∃ b, d = .bl b ∧
  (b = true → wc τ2 (fun d3 τ3 => g' d2 d3 fun d => ∃ b', d = .bl b' ∧ (b' = true → wd τ3 (fun d4 τ4 => g'' d3 d4 fun d => q d τ4) e) ∧ (b' = false → q (.bl false) τ3)) e) ∧ (b = false → q (.bl false) τ2)) e) e
theorem de_chain3 {r r' r'' : R2} {g g' g'' : D → D → (D → Prop) → Prop} {ta tb tc td : TE} {wa wb wc wd : EW} (o : Op2 K r g) (o' : Op2 K r' g') (o'' : Op2 K r'' g'') (ha : DE K W ta wa) (hb : DE K W tb wb) (hc : DE K W tc wc) (hd : DE K W td wd) : DE K W (tChain3 r r' r'' ta tb tc td) (wChain3 g g' g'' wa wb wc wd) := by
  refine ⟨fun σ H τ F Q q e S h k x => ?_⟩
  refine ha.run σ H τ F _ _ e S h (fun v1 d1 τ1 F1 H1 t1 r1 h1 => ?_) x
  refine hb.run σ H1 τ1 F1 _ _ e t1.ok h1 (fun v2 d2 τ2 F2 H2 t2 r2 h2 => ?_) (x.of t1)
  refine o F2 H2 v1 v2 d1 d2 _ _ t2.ok.sub (r1.mono t2.ext.f) r2 h2 fun v d F3 H3 e3 s3 r3 ⟨b, eb, h3, h4⟩ => ?_
  subst eb
  have t3 : To K F2 H2 σ τ2 F3 H3 τ2 := .small t2.ok e3 s3
  have t03 := (t1.trans t2).trans t3
  refine ⟨b, r3.bl_of, ?_⟩
  cases b with
  | false => exact iteF (k _ _ τ2 F3 H3 t03 (.bl false) (h4 rfl))
  | true =>
    refine iteT ?_
    refine hc.run σ H3 τ2 F3 _ _ e t3.ok (h3 rfl) (fun v4 d4 τ4 F4 H4 t4 r4 h5 => ?_) (x.of t03)
    refine o' F4 H4 v2 v4 d2 d4 _ _ t4.ok.sub (r2.mono ((e3.f).trans t4.ext.f)) r4 h5 fun v d F5 H5 e5 s5 r5 ⟨b', eb', h6, h7⟩ => ?_
    subst eb'
    have t5 : To K F4 H4 σ τ4 F5 H5 τ4 := .small t4.ok e5 s5
    have t05 := (t03.trans t4).trans t5
    refine ⟨b', r5.bl_of, ?_⟩
    cases b' with
    | false => exact iteF (k _ _ τ4 F5 H5 t05 (.bl false) (h7 rfl))
    | true =>
      refine iteT ?_
      refine hd.run σ H5 τ4 F5 _ _ e t5.ok (h6 rfl) (fun v6 d6 τ6 F6 H6 t6 r6 h8 => ?_) (x.of t05)
      refine o'' F6 H6 v4 v6 d4 d6 _ Q t6.ok.sub (r4.mono ((e5.f).trans t6.ext.f)) r6 h8 fun v d F7 H7 e7 s7 r7 h9 => ?_
      exact k v d τ6 F7 H7 ((t05.trans t6).trans (.small t6.ok e7 s7)) r7 h9
end
end L3

/-! ## tuples: + and slices of any kind, order of pairs; truth of a sequence -/
namespace L3
open PySem PySem.Spec PyProof.Rows L2
variable [TB : TabT]
section
variable {K : PySem.W.Frag} {W : WX}
def gCatA : D → D → (D → Prop) → Prop := fun x y q => ∃ as bs, x = .tup as ∧ y = .tup bs ∧ as.length + bs.length ≤ 1000 ∧ q (.tup (as ++ bs))
theorem Reps.nil_l {F : Hp} {xs : List V} {ds : List D} (r : Reps K F xs ds) : xs = [] ↔ ds = [] := by
  cases r <;> simp
theorem o_catA : Op2 K (rCatA K) gCatA := by
  rintro F H x y d1 d2 q Q s r1 r2 ⟨as, bs, rfl, rfl, hl, hq⟩ k
  cases r1 with
  | @tup a xs _ h1 r1 =>
    cases r2 with
    | @tup b ys _ h2 r2 =>
      refine ⟨a, b, xs, ys, rfl, rfl, SqT_mono s h1, SqT_mono s h2, by rw [r1.length, r2.length]; exact Nat.le_of_lt (small1000 hl), fun z => ?_, fun _ z => ?_, fun z1 z2 p hp => ?_⟩
      · have e := r1.nil_l.mp z
        subst e
        exact k _ (.tup _) F H (.refl _ _ _) s (.tup h2 r2) hq
      · have e := r2.nil_l.mp z
        subst e
        rw [List.append_nil] at hq
        exact k _ (.tup _) F H (.refl _ _ _) s (.tup h1 r1) hq
      · obtain ⟨x1, x2⟩ := new_ext (o := .tup (xs ++ ys)) s hp
        exact k _ (.tup (as ++ bs)) _ _ x1 x2 (.tup (.inl (.inl upd_same)) ((r1.append r2).mono (new_same s hp))) hq
/-- t[lo:hi] of any kind -/
def wSlA (we : EW) (wl wh : OW) : EW := fun τ q e => we τ (fun d τ1 => wl τ1 (fun lo τ2 => wh τ2 (fun hi τ3 => ∃ es, d = .tup es ∧ q (.tup (cutDs es lo hi)) τ3) e) e) e
theorem cutDs_whole {α : Type} {xs : List α} {lo hi : Option Int} (h1 : HT.sIx xs.length 0 lo = 0) (h2 : HT.sIx xs.length xs.length hi = xs.length) : cutDs xs lo hi = xs := by
  unfold cutDs
  rw [h1, h2]
  simp
theorem de_slA {t : TE} {tl th : TO} {w : EW} {wl wh : OW} (h : DE K W t w) (hl : DO K W tl wl) (hh : DO K W th wh) : DE K W (tSl (L2.rSlA K) t tl th) (wSlA w wl wh) := by
  refine ⟨fun σ H τ F Q q e S hw k x => h.run σ H τ F _ _ e S hw (fun z d τ1 F1 H1 t1 r1 h1 => ?_) x⟩
  refine hl.run σ H1 τ1 F1 _ _ e t1.ok h1 (fun lo τ2 F2 H2 t2 h2 => ?_) (x.of t1)
  refine hh.run σ H2 τ2 F2 _ _ e t2.ok h2 (fun hi τ3 F3 H3 t3 h3 => ?_) (x.of (t1.trans t2))
  obtain ⟨es, rfl, hq⟩ := h3
  have r3 := (r1.mono t2.ext.f).mono t3.ext.f
  cases r3 with
  | @tup a xs _ hs r =>
    refine ⟨a, xs, rfl, SqT_mono t3.ok.sub hs, fun hw => ?_, fun hn p hp => ?_⟩
    · rw [r.length] at hw
      rw [cutDs_whole hw.1 hw.2] at hq
      exact k _ (.tup es) τ3 _ _ ((t1.trans t2).trans t3) (.tup hs r) hq
    · obtain ⟨x1, x2⟩ := new_ext (o := .tup (cutV xs lo hi)) t3.ok.sub hp
      exact k _ (.tup (cutDs es lo hi)) τ3 _ _ (((t1.trans t2).trans t3).trans (.small t3.ok x1 x2)) (.tup (.inl (.inl upd_same)) ((cut_rep r).mono (new_same t3.ok.sub hp))) hq
/-- order of tuples of ints -/
def gLtT : D → D → (D → Prop) → Prop := fun x y q => ∃ ns ms : List Int, x = .tup (ns.map D.int) ∧ y = .tup (ms.map D.int) ∧ q (.bl (HT.lexLt ns ms))
def leInts (ns ms : List Int) : Bool := Ob.lexAt (fun j => decide (ns.getD j 0 = ms.getD j 0)) (fun j => decide (ns.getD j 0 ≤ ms.getD j 0)) (decide (ns.length ≤ ms.length)) 0 (min ns.length ms.length)
def gLeT : D → D → (D → Prop) → Prop := fun x y q => ∃ ns ms : List Int, x = .tup (ns.map D.int) ∧ y = .tup (ms.map D.int) ∧ q (.bl (leInts ns ms))
theorem Rep.tupInts {F : Hp} {v : V} {ns : List Int} (h : Rep K F v (.tup (ns.map D.int))) : ∃ a, v = .ref a ∧ SqT K F a (ns.map V.int) := by
  cases h with
  | @tup a xs _ h r =>
    have e := r.intsV
    subst e
    exact ⟨a, rfl, h⟩
theorem o_ltT : Op2 K (rLtT K) gLtT := by
  rintro F H x y d1 d2 q Q s r1 r2 ⟨ns, ms, rfl, rfl, hq⟩ k
  obtain ⟨a, rfl, h1⟩ := r1.tupInts
  obtain ⟨b, rfl, h2⟩ := r2.tupInts
  exact ⟨a, b, ns, ms, rfl, rfl, SqT_mono s h1, SqT_mono s h2, k _ (.bl _) F H (.refl _ _ _) s (.bl _) hq⟩
theorem o_leT : Op2 K (L2.rLeT K) gLeT := by
  rintro F H x y d1 d2 q Q s r1 r2 ⟨ns, ms, rfl, rfl, hq⟩ k
  obtain ⟨a, rfl, h1⟩ := r1.tupInts
  obtain ⟨b, rfl, h2⟩ := r2.tupInts
  exact ⟨a, b, ns, ms, rfl, rfl, SqT_mono s h1, SqT_mono s h2, k _ (.bl _) F H (.refl _ _ _) s (.bl _) hq⟩
/-- the truth of a thing -/
def truD : D → Option Bool | .non => some false | .bl b => some b | .int i => some (i != 0) | .tup ds => some (!ds.isEmpty) | .lst ds => some (!ds.isEmpty) | .fl ds => some (!ds.isEmpty) | _ => none
def wTru (we : EW) : TW := fun τ q e => we τ (fun d τ' => ∃ b, truD d = some b ∧ q b τ') e
theorem Reps.isEmpty {F : Hp} {xs : List V} {ds : List D} (r : Reps K F xs ds) : xs.isEmpty = ds.isEmpty := by cases r <;> rfl
theorem dt_tru {t : TE} {w : EW} (h : DE K W t w) : DT K W (fun σ H Q => t σ H fun x H' => ∃ k, TruV K x H' k ∧ Q k H') (wTru w) := by
  refine ⟨fun σ H τ F Q q e S hw k x => h.run σ H τ F _ _ e S hw (fun z d τ1 F1 H1 t1 r1 ⟨b, eb, hq⟩ => ⟨b, ?_, k b τ1 F1 H1 t1 hq⟩) x⟩
  cases r1 with
  | non => cases eb; rfl
  | bl b => cases eb; rfl
  | int i => cases eb; rfl
  | tup h r =>
    cases eb
    exact .inr (.inl ⟨_, SqT_mono t1.ok.sub h, by rw [r.isEmpty]⟩)
  | lst h r =>
    cases eb
    exact .inl ⟨_, .inl (.inl (t1.ok.sub _ _ h)), by rw [r.isEmpty]⟩
  | fl h r =>
    cases eb
    exact .inl ⟨_, t1.ok.sub.seq h, by rw [r.isEmpty]⟩
  | _ => cases eb
end
end L3

/-! ## enumerate of a list, any, min, in, x[i] += e, a comprehension that is the frame's own -/
namespace L3
open PySem PySem.Spec PyProof.Rows L2
variable [TB : TabT]
/-- xs[k], k from 0 on -/
def rGetN : V → V → Hp → VK → Prop := fun o i H Q => ∃ p xs k v, o = .ref p ∧ i = .int k ∧ H p = some (.lst xs) ∧ 0 ≤ k ∧ xs[k.toNat]? = some v ∧ Q v H
theorem get_listN {X : Cx} : PGet X rGetN := by
  intro pins s σ H o i ov iv Q I ro ri h
  obtain ⟨p, xs, k, v, rfl, rfl, hp, h0, hv, q⟩ := h
  cases ro
  obtain ⟨tk, rfl⟩ := ri
  obtain ⟨its, rv, pl, hz⟩ := I.list (.inl (.inl hp))
  have hl := rv.length
  obtain ⟨hlt, _⟩ := List.getElem?_eq_some_iff.mp hv
  have hsz := sizeLine_eq
  obtain ⟨u, hu, ru⟩ := Vals.get rv hv
  refine getItem_listL pl.isList h0 (by omega) hu ?_
  exact ⟨v, H, I, ru, q⟩
theorem lt65 {k : Nat} {A : Around} (r : Room k A) : A.units + 65 < cLine := by have := r.un; omega
def rInT (K : PySem.W.Frag) : R2 := fun x y H Q => ∃ d ds, Dp K H x d ∧ Dp K H y (.tuple ds) ∧ SeqAt.shaped d = true ∧ SeqAt.shaped (.tuple ds) = true ∧ Q (.bl (ds.any fun z => PyData.eqv z d)) H
theorem op_inT {X : Cx} (hu : X.A.units + 65 < cLine) : OpR X (compareOp .In) (rInT X.K) := by
  intro pins s σ H x y v u Q I rx ry h
  obtain ⟨d, ds, hd, he, sd, se, q⟩ := h
  obtain ⟨as, r1⟩ := Dp.reads I d x v hd rx
  obtain ⟨bs, r2⟩ := Dp.reads I (.tuple ds) y u he ry
  exact SeqAt.in_tuple_reads r2 r1 (SeqAt.canLay_of_shaped se) (SeqAt.canLay_of_shaped sd) (room_in_shaped sd hu) ⟨.bl _, H, I, rfl, q⟩
theorem ixN_ltN {n j : Nat} (h : j < n) : ixN n (j : Int) = some j := by
  unfold ixN
  rw [if_pos (by omega)]
  simp
  omega
section
variable {K : PySem.W.Frag} {W : WX}
def gInT : D → D → (D → Prop) → Prop := fun x y q => ∃ d ds, toPy x = some d ∧ toPy y = some (.tuple ds) ∧ SeqAt.shaped d = true ∧ SeqAt.shaped (.tuple ds) = true ∧ q (.bl (ds.any fun z => PyData.eqv z d))
theorem o_inT : Op2 K (rInT K) gInT := by
  rintro F H x y d1 d2 q Q s r1 r2 ⟨v, ds, e1, e2, h1, h2, hq⟩ k
  exact ⟨v, ds, Dp_mono s (dp_of r1 e1), Dp_mono s (dp_of r2 e2), h1, h2, k _ _ F H (.refl _ _ _) s (.bl _) hq⟩
def gAny : List D → (D → Prop) → Prop := fun ds q => ∃ (es : List D) (bs : List Bool), (ds = [.lst es] ∨ ds = [.fl es]) ∧ es = bs.map D.bl ∧ q (.bl (bs.any id))
theorem o_any : OpN K (rAny K) gAny := by
  rintro F H xs ds q Q s r ⟨es, bs, e, rfl, hq⟩ k
  rcases e with rfl | rfl
  · obtain ⟨v, rfl, r1⟩ := r.one
    cases r1 with
    | lst h r2 =>
      have := Reps.bls r2
      subst this
      exact ⟨_, bs, rfl, .inl (.inl (s _ _ h)), k _ _ F H (.refl _ _ _) s (.bl _) hq⟩
  · obtain ⟨v, rfl, r1⟩ := r.one
    cases r1 with
    | fl h r2 =>
      have := Reps.bls r2
      subst this
      exact ⟨_, bs, rfl, s.seq h, k _ _ F H (.refl _ _ _) s (.bl _) hq⟩
def mnI (a b : Int) : Int := if b < a then b else a
def rMin2 : List V → Hp → VK → Prop := fun xs H Q => ∃ i j, xs = [.int i, .int j] ∧ Q (.int (if j < i then j else i)) H
def gMin2 : List D → (D → Prop) → Prop := fun ds q => ∃ i j : Int, ds = [.int i, .int j] ∧ q (.int (mnI i j))
theorem o_min2 : OpN K rMin2 gMin2 := by
  rintro F H xs ds q Q s r ⟨i, j, rfl, hq⟩ k
  obtain ⟨v, v', rfl, r1, r2⟩ := r.two
  exact ⟨i, j, by rw [r1.int_of, r2.int_of], k _ _ F H (.refl _ _ _) s (.int _) hq⟩
def wEnumL (wa : AW) : IW := fun τ q e => wa τ (fun ds τ' => ∃ es, (ds = [.lst es] ∨ ds = [.fl es]) ∧ q (es.mapIdx fun i d => .tup [.int i, d]) τ') e
theorem it_enum {F : Hp} {a : Addr} {xs : List V} {ds : List D} (h : SqL K F a xs) (r : Reps K F xs ds) : ItOk K F (Ite K a) (ds.mapIdx fun i d => .tup [.int i, d]) := by
  refine ⟨fun i F2 H s s2 hi => ?_, fun F2 H s s2 => ⟨xs, s2.seq (s.seq h), by rw [List.length_mapIdx, r.length]; exact Nat.le_refl _⟩, fun i F2 H x H' s s2 hi y => ?_⟩
  · rw [List.length_mapIdx, ← r.length] at hi
    exact ⟨xs, xs[i], s2.seq (s.seq h), List.getElem?_eq_getElem hi⟩
  · obtain ⟨T, x', rfl, hT, rfl, e⟩ := y
    obtain ⟨d, e1, e2⟩ := (r.mono s).get (e xs (s2.seq (s.seq h)))
    obtain ⟨x1, x2⟩ := new_ext (o := .tup [.int i, x']) s2 hT
    refine ⟨.tup [.int i, d], _, by rw [List.getElem?_mapIdx, e1]; rfl, x1, x2, .tup (.inl (.inl upd_same)) (.cons (.int _) (.cons (e2.mono (new_same s2 hT)) .nil))⟩
theorem di_enumL {t : TA} {w : AW} (h : DA K W t w) : DI K W (iEnum K t) (wEnumL w) := by
  refine ⟨fun σ H τ F R q e S hw k x => h.run σ H τ F _ _ e S hw (fun vs ds τ' F' H' t' r ⟨es, ed, hq⟩ => ?_) x⟩
  rcases ed with rfl | rfl
  · obtain ⟨v, rfl, r1⟩ := r.one
    cases r1 with
    | lst hs r2 => exact ⟨_, _, rfl, .inl (.inl (t'.ok.sub _ _ hs)), k _ _ τ' F' H' t' (it_enum (.inl (.inl hs)) r2) hq⟩
  · obtain ⟨v, rfl, r1⟩ := r.one
    cases r1 with
    | fl hs r2 => exact ⟨_, _, rfl, t'.ok.sub.seq hs, k _ _ τ' F' H' t' (it_enum hs r2) hq⟩
/-- x[k] += e, x an own list of ints -/
def wAugOwn (i : Nat) (wk we : EW) : SW := fun E τ => (∃ p es, τ[i]? = some (.own p (.lst es))) ∧ wk τ (fun k τ1 => ∃ p es n a, τ1[i]? = some (.own p (.lst es)) ∧ k = .int n ∧ 0 ≤ n ∧ es[n.toNat]? = some (.int a) ∧ we τ1 (fun d τ2 => ∃ es2 b, τ2[i]? = some (.own p (.lst es2)) ∧ es2.length = es.length ∧ d = .int b ∧ E.nx (τ2.set i (.own p (.lst (es2.set n.toNat (.int (a + b))))))) E.ex) E.ex
theorem ds_augOwn {i : Nat} {t u : TE} {w v : EW} (h : DE K W t w) (g : DE K W u v) : DS K W (tAugS (tVar i) t u rGetN (ipI fun a b => a + b) rSetL) (wAugOwn i w v) := by
  refine ⟨fun σ H τ F Dn E S ⟨⟨p, es, e0⟩, hw⟩ o => ?_⟩
  obtain ⟨s0, _, vs0, h0, _⟩ := own_lst S e0
  refine ⟨.ref p, s0, ?_⟩
  refine h.run σ H τ F _ _ E.ex S hw (fun y kd τ1 F1 H1 t1 r1 ⟨p', es', n, a, e1, ek, n0, ea, hq⟩ => ?_) o.xto
  subst ek
  obtain ⟨s1, _, vs1, h1, r2⟩ := own_lst t1.ok e1
  rw [s0] at s1
  cases s1
  obtain ⟨vv, ev, rv⟩ := r2.getD ea
  refine ⟨p, vs1, n, vv, rfl, r1.int_of, h1, n0, ev, ?_⟩
  refine g.run σ H1 τ1 F1 _ _ E.ex t1.ok hq (fun x d τ2 F2 H2 t2 r3 ⟨es2, b, e2, hl, ed, hn⟩ => ?_) (o.of t1).xto
  subst ed
  refine ⟨a, b, rv.int_of, r3.int_of, ?_⟩
  obtain ⟨s2, _, vs2, h2, r4⟩ := own_lst t2.ok e2
  rw [s0] at s2
  cases s2
  have hlt : n.toNat < es'.length := (List.getElem?_eq_some_iff.mp ea).1
  refine ⟨p, vs2, n, n.toNat, rfl, r1.int_of, h2, ?_, ?_⟩
  · have : n = ((n.toNat : Nat) : Int) := by omega
    rw [this]
    exact ixN_ltN (by rw [r4.length]; omega)
  · exact o.nx σ _ F2 _ (to_change (t1.trans t2) e2 (.lst (Reps.set (.int _) _ r4))) hn
/-- what is there and belongs to nobody becomes the frame's own -/
theorem To.takeOwn {F H F1 H1 : Hp} {σ : L2.St} {τ τ1 : List Cell} {i : Nat} {p : Addr} {vs : HO} {ds : Cont} (t : To K F H σ τ F1 H1 τ1) (hp0 : Fr H p) (nF : F1 p = none) (hH : H1 p = some vs) (nO : ¬ IsOwn τ1 p) (r : CRep K F1 vs ds) :
    To K F H (σ.set i (some (.ref p))) τ F1 H1 (τ1.set i (.own p ds)) := by
  refine ⟨t.ext, fun q ⟨j, es, h⟩ => ?_, t.ok.setOwn nF hH r nO⟩
  by_cases e : i = j
  · subst e
    by_cases hl : i < τ1.length
    · rw [List.getElem?_set_self hl] at h
      cases h
      exact .inr hp0
    · rw [List.set_eq_of_length_le (Nat.le_of_not_lt hl)] at h
      exact t.grow q ⟨_, _, h⟩
  · rw [List.getElem?_set_ne e] at h
    exact t.grow q ⟨_, _, h⟩
def wLcOwn (i : Nat) (wI : IW) (wg : GW) (wt : TW) (we : EW) (vs : List Nat) : SW := fun E τ => wI τ (fun ds τ1 => ds.length ≤ 1000 ∧ ∃ inv : Nat → List D → List Cell → Prop, inv 0 [] (wipeD τ1 vs) ∧
  (∀ i d acc τ2, ds[i]? = some d → inv i acc τ2 → acc.length ≤ i → wg d τ2 fun τ3 => wt τ3 (fun b τ4 => (b = true → we τ4 (fun y τ5 => inv (i + 1) (acc ++ [y]) (wipeD τ5 vs)) noX) ∧ (b = false → inv (i + 1) acc (wipeD τ4 vs))) noX) ∧
  ∀ acc τ2, inv ds.length acc (wipeD τ2 vs) → acc.length ≤ ds.length → ∀ p, E.nx ((wipeD τ2 vs).set i (.own p (.lst acc)))) E.ex
theorem ds_lcOwn {i : Nat} {wi : TI} {g : TG} {tt : TT} {te : TE} {vs ws : List Nat} {wI : IW} {wg : GW} {wt : TW} {we : EW} (hi : DI K W wi wI) (hg : DG K ws g wg) (ht : DT K W0 tt wt) (he : DE K W0 te we) (hs : ∀ j ∈ ws, j ∈ vs) :
    DS K W (tAsg (tLc wi g tt te vs) (gName i)) (wLcOwn i wI wg wt we vs) := by
  refine ⟨fun σ H τ F Dn E S hw o => hi.run σ H τ F _ _ E.ex S hw (fun J ds τ1 F1 H1 t1 it ⟨hn, inv, h0, hst, hd⟩ Da hD => ?_) o.xto⟩
  refine lc_turns hg ht he hs t1.ok it hD hn h0 hst fun accV acc F2 H2 τ2 T fD nD hH ra la hinv => ?_
  have T1 : To K F H σ τ F2 H2 (wipeD τ2 vs) := by
    refine t1.trans (To.at (τ1 := wipeD τ2 vs) T ?_ fun p h => h)
    rw [← wipeD_idem]
    exact T.ok.wiped (by rw [wipe_length]) fun j hj => (wipe_ne hj).symm
  exact o.nx _ _ F2 _ (T1.takeOwn (t1.ext.there _ (fr_none hD)) fD hH nD (.lst ra)) (hd acc τ2 hinv la Da)
end
end L3

set_option Elab.async false
set_option linter.all false
set_option maxRecDepth 100000
set_option maxHeartbeats 4000000
namespace K08
open PySem PySem.Spec PyProof.Rows L2 L3
def inClass (st : Stmt) (j : Nat) : Stmt := match st with | .ClassDef (body := b) .. => b.getD j (.Pass ⟨0, 0, 0, 0⟩) | _ => .Pass ⟨0, 0, 0, 0⟩
def topS (i : Nat) : Stmt := PySem.Challenge.pw_twotides_k08_faults_of_webs.main.body.getD i (.Pass ⟨0, 0, 0, 0⟩)
section
variable [TB : TabT] {K : PySem.W.Frag}
/-- a pair of integers, the second above 0, neither great -/
def PrB (k : Nat) (d : D) : Prop := ∃ t b : Int, d = .tup [.int t, .int b] ∧ 0 < b ∧ t.natAbs < 2 ^ k ∧ b.natAbs < 2 ^ k
/-- a fraction in lowest terms -/
def nf (t b : Int) : D := .tup [.int (t / ((Nat.gcd t.natAbs b.natAbs : Nat) : Int)), .int (b / ((Nat.gcd t.natAbs b.natAbs : Nat) : Int))]
theorem gcd_w {t b : Int} (h0 : 0 < b) (h : b.natAbs < 2 ^ 900) (x : Int) : CDivW x (Nat.gcd t.natAbs b.natAbs : Nat) := by
  have hg : 0 < Nat.gcd t.natAbs b.natAbs := Nat.gcd_pos_of_pos_right _ (by omega)
  have gb : Nat.gcd t.natAbs b.natAbs ≤ b.natAbs := Nat.le_of_dvd (by omega) (Nat.gcd_dvd_right _ _)
  exact wide_div (b := 900) (by omega) (by rw [Int.natAbs_natCast]; omega) (by decide) (by decide)
theorem pow_le {a b : Nat} (h : a ≤ b) : (2 : Nat) ^ a ≤ 2 ^ b := Nat.pow_le_pow_right (by decide) h
/-- its integers are below 2 ^ k -/
def SmI (k : Nat) (x y : Int) : Prop := x.natAbs < 2 ^ k ∧ y.natAbs < 2 ^ k
theorem mul_abs {i j : Int} {a b : Nat} (h1 : i.natAbs < 2 ^ a) (h2 : j.natAbs < 2 ^ b) : (i * j).natAbs < 2 ^ (a + b) := wide_lt h1 h2
theorem cmul_w {i j : Int} {a b : Nat} (h1 : i.natAbs < 2 ^ a) (h2 : j.natAbs < 2 ^ b) (ha : 0 < a) (hb : 0 < b) (h : a + b ≤ 1000000) : CMulA i j := .inr (wide_mul h1 h2 ha hb h)
theorem pos_right {a b : Int} (ha : 0 < a) (h : 0 < a * b) : 0 < b := by
  cases Int.lt_or_le 0 b with
  | inl z => exact z
  | inr z =>
    have := Int.mul_le_mul_of_nonneg_left z (Int.le_of_lt ha)
    omega
theorem nf_eq {t b t' b' : Int} (hb : 0 < b) (hb' : 0 < b') (h : t * b' = t' * b) : nf t b = nf t' b' := by
  have z : b.natAbs ≠ 0 := by omega
  have z' : b'.natAbs ≠ 0 := by omega
  have e : Rat.normalize t b.natAbs z = Rat.normalize t' b'.natAbs z' := by
    rw [Rat.normalize_eq_iff]
    have h1 : ((b.natAbs : Nat) : Int) = b := by omega
    have h2 : ((b'.natAbs : Nat) : Int) = b' := by omega
    rw [h1, h2]
    exact h
  rw [Rat.normalize_eq, Rat.normalize_eq] at e
  have e1 := congrArg Rat.num e
  have e2 := congrArg Rat.den e
  have e1 : t / ((Nat.gcd t.natAbs b.natAbs : Nat) : Int) = t' / ((Nat.gcd t'.natAbs b'.natAbs : Nat) : Int) := e1
  have e2 : b.natAbs / Nat.gcd t.natAbs b.natAbs = b'.natAbs / Nat.gcd t'.natAbs b'.natAbs := e2
  have e3 : b / ((Nat.gcd t.natAbs b.natAbs : Nat) : Int) = b' / ((Nat.gcd t'.natAbs b'.natAbs : Nat) : Int) := by
    have h1 : b = ((b.natAbs : Nat) : Int) := by omega
    have h2 : b' = ((b'.natAbs : Nat) : Int) := by omega
    rw [h1, h2, ← Int.natCast_ediv, ← Int.natCast_ediv]
    simpa using congrArg (Nat.cast : Nat → Int) e2
  unfold nf
  rw [e1, e3]
theorem nf_self {t b : Int} (h : Nat.gcd t.natAbs b.natAbs = 1) : nf t b = .tup [.int t, .int b] := by
  unfold nf
  rw [h]
  simp
theorem nf_parts {t b : Int} (hb : 0 < b) : ∃ t' b', nf t b = .tup [.int t', .int b'] ∧ 0 < b' ∧ t' * b = t * b' ∧ t'.natAbs ≤ t.natAbs ∧ b'.natAbs ≤ b.natAbs ∧ Nat.gcd t'.natAbs b'.natAbs = 1 := by
  have hg : 0 < Nat.gcd t.natAbs b.natAbs := Nat.gcd_pos_of_pos_right _ (by omega)
  have hg' : ((Nat.gcd t.natAbs b.natAbs : Nat) : Int) ≠ 0 := by omega
  obtain ⟨x, hx⟩ : ((Nat.gcd t.natAbs b.natAbs : Nat) : Int) ∣ t := Int.ofNat_dvd_left.mpr (Nat.gcd_dvd_left _ _)
  obtain ⟨y, hy⟩ : ((Nat.gcd t.natAbs b.natAbs : Nat) : Int) ∣ b := Int.ofNat_dvd_left.mpr (Nat.gcd_dvd_right _ _)
  have ex : t / ((Nat.gcd t.natAbs b.natAbs : Nat) : Int) = x := Int.ediv_eq_of_eq_mul_right hg' hx
  have ey : b / ((Nat.gcd t.natAbs b.natAbs : Nat) : Int) = y := Int.ediv_eq_of_eq_mul_right hg' hy
  have ax : t.natAbs = Nat.gcd t.natAbs b.natAbs * x.natAbs := by
    have := congrArg Int.natAbs hx
    rwa [Int.natAbs_mul, Int.natAbs_natCast] at this
  have ay : b.natAbs = Nat.gcd t.natAbs b.natAbs * y.natAbs := by
    have := congrArg Int.natAbs hy
    rwa [Int.natAbs_mul, Int.natAbs_natCast] at this
  refine ⟨x, y, by unfold nf; rw [ex, ey], ?_, ?_, ?_, ?_, ?_⟩
  · rw [hy] at hb
    exact pos_right (by omega) hb
  · generalize Nat.gcd t.natAbs b.natAbs = g at hx hy
    rw [hx, hy]
    simp only [Int.mul_assoc, Int.mul_comm, Int.mul_left_comm]
  · rw [ax]; exact Nat.le_mul_of_pos_left _ hg
  · rw [ay]; exact Nat.le_mul_of_pos_left _ hg
  · have h := Nat.gcd_div (Nat.gcd_dvd_left t.natAbs b.natAbs) (Nat.gcd_dvd_right t.natAbs b.natAbs)
    rw [Nat.div_self hg] at h
    have e1 : t.natAbs / Nat.gcd t.natAbs b.natAbs = x.natAbs := Nat.div_eq_of_eq_mul_right hg ax
    have e2 : b.natAbs / Nat.gcd t.natAbs b.natAbs = y.natAbs := Nat.div_eq_of_eq_mul_right hg ay
    rwa [e1, e2] at h
/-- a pair of integers is not great -/
def SmB (k : Nat) : D → Prop | .tup [.int x, .int y] => SmI k x y | _ => True
/-- plain data, n deep at most -/
def ShD : Nat → D → Prop
  | 0, _ => False
  | _ + 1, .non => True
  | _ + 1, .bl _ => True
  | _ + 1, .int _ => True
  | n + 1, .tup ds => ∀ d ∈ ds, ShD n d
  | n + 1, .lst ds => ∀ d ∈ ds, ShD n d
  | _ + 1, _ => False
theorem shDs_py {n : Nat} (ih : ∀ d, ShD n d → ∃ p, toPy d = some p ∧ p.canLay0 = true ∧ p.depth ≤ n) : ∀ {ds : List D}, (∀ d ∈ ds, ShD n d) → ∃ ps, toPys ds = some ps ∧ PyData.canLayAll0 ps = true ∧ PyData.depthAll ps ≤ n ∧ ps = ds.map pyD
  | [], _ => ⟨[], rfl, rfl, Nat.zero_le _, rfl⟩
  | d :: ds, h => by
    obtain ⟨p, e1, c1, d1⟩ := ih d (h d (by simp))
    obtain ⟨ps, e2, c2, d2, e3⟩ := shDs_py ih (ds := ds) fun x hx => h x (by simp [hx])
    refine ⟨p :: ps, ?_, ?_, ?_, ?_⟩
    · show (toPy d).bind _ = _
      rw [e1, e2]
      rfl
    · show (PyData.canLay0 p && PyData.canLayAll0 ps) = true
      rw [c1, c2]
      rfl
    · show max (PyData.depth p) (PyData.depthAll ps) ≤ n
      omega
    · rw [List.map_cons, e3]
      congr 1
      unfold pyD
      rw [e1]
      rfl
theorem shD_py : ∀ {n : Nat} {d : D}, ShD n d → ∃ p, toPy d = some p ∧ p.canLay0 = true ∧ p.depth ≤ n
  | 0, _, h => h.elim
  | n + 1, .non, _ => ⟨_, rfl, rfl, Nat.zero_le _⟩
  | n + 1, .bl _, _ => ⟨_, rfl, rfl, Nat.zero_le _⟩
  | n + 1, .int _, _ => ⟨_, rfl, rfl, Nat.zero_le _⟩
  | n + 1, .tup ds, h => by
    obtain ⟨ps, e, c, d, _⟩ := shDs_py (fun _ => shD_py) (ds := ds) h
    refine ⟨.tuple ps, ?_, c, Nat.succ_le_succ d⟩
    show (toPys ds).map PyData.tuple = _
    rw [e]
    rfl
  | n + 1, .lst ds, h => by
    obtain ⟨ps, e, c, d, _⟩ := shDs_py (fun _ => shD_py) (ds := ds) h
    refine ⟨.list ps, ?_, c, Nat.succ_le_succ d⟩
    show (toPys ds).map PyData.list = _
    rw [e]
    rfl
  | n + 1, .str _, h => h.elim
  | n + 1, .fl _, h => h.elim
  | n + 1, .ty _, h => h.elim
  | n + 1, .oth _, h => h.elim
  | n + 1, .ins _ _, h => h.elim
theorem shD_sh {n : Nat} {d : D} (h : ShD n d) (hn : n ≤ 60) : toPy d = some (pyD d) ∧ SeqAt.shaped (pyD d) = true := by
  obtain ⟨p, e, c, dp⟩ := shD_py h
  have e2 : pyD d = p := by unfold pyD; rw [e]; rfl
  rw [e2]
  refine ⟨e, ?_⟩
  unfold SeqAt.shaped
  rw [c, decide_eq_true (show p.depth ≤ 64 by omega)]
  rfl
def eqB (x y : D) : Bool := PyData.eqv (pyD x) (pyD y)
def inB (x : D) (ys : List D) : Bool := ys.any fun y => PyData.eqv (pyD y) (pyD x)
theorem gEqD_of {n m : Nat} {x y : D} {q : D → Prop} (h : ShD n x) (g : ShD m y) (hn : n ≤ 60) (hm : m ≤ 60) (hq : q (.bl (eqB x y))) : gEqD x y q := by
  obtain ⟨a1, a2⟩ := shD_sh h hn
  obtain ⟨b1, b2⟩ := shD_sh g hm
  exact ⟨_, _, a1, b1, a2, b2, hq⟩
theorem gInT_of {n m : Nat} {x : D} {ys : List D} {q : D → Prop} (h : ShD n x) (g : ShD m (.tup ys)) (hn : n ≤ 60) (hm : m ≤ 60) (hq : q (.bl (inB x ys))) : gInT x (.tup ys) q := by
  obtain ⟨a1, a2⟩ := shD_sh h hn
  obtain ⟨b1, b2⟩ := shD_sh g hm
  cases m with
  | zero => exact g.elim
  | succ m =>
    obtain ⟨ps, e, c, d, e3⟩ := shDs_py (fun _ => shD_py) (ds := ys) g
    have e4 : pyD (.tup ys) = .tuple ps := by
      unfold pyD
      show ((toPys ys).map PyData.tuple).getD .none = _
      rw [e]
      rfl
    rw [e4] at b1 b2
    refine ⟨_, ps, a1, b1, a2, b2, ?_⟩
    have : (ps.any fun z => PyData.eqv z (pyD x)) = inB x ys := by
      unfold inB
      rw [e3, List.any_map]
      rfl
    rw [this]
    exact hq
/-- going along places: the first that is not right -/
def firstIx (P : Nat → Bool) : Nat → Nat → Option Nat
  | _, 0 => none
  | k, n + 1 => if P k = true then firstIx P (k + 1) n else some k
theorem firstIx_ok {P : Nat → Bool} {i n : Nat} (hi : i < n) (h : P i = true) : firstIx P i (n - i) = firstIx P (i + 1) (n - (i + 1)) := by
  have : n - i = (n - (i + 1)) + 1 := by omega
  rw [this, firstIx, if_pos h]
theorem firstIx_no {P : Nat → Bool} {i n : Nat} (hi : i < n) (h : P i = false) : firstIx P i (n - i) = some i := by
  have : n - i = (n - (i + 1)) + 1 := by omega
  rw [this, firstIx, if_neg (by rw [h]; simp)]
theorem pow6 : (10 : Int) ^ Int.toNat 6 = 1000000 := by decide +kernel
end

structure CT where
  C_NoSorts : Addr
  C_Book : Addr
  C_Web : Addr
  C_TidesError : Addr
  C_NoSort : Addr
  C_BadBook : Addr
  C_BadWeb : Addr
structure Txt (K : PySem.W.Frag) (mg : Str → Option Value) where
  f_is_integer : Addr
  fd_is_integer : FuncData
  F_is_integer : Fun K "is_integer" "is_integer" (topS 2) f_is_integer fd_is_integer
  b_is_integer : Binds K fd_is_integer ["thing"] []
  g_is_integer : mg "is_integer" = some (.ref f_is_integer)
  k_is_integer : PySem.W.keepIn K (.ref f_is_integer) = true
  f_is_between : Addr
  fd_is_between : FuncData
  F_is_between : Fun K "is_between" "is_between" (topS 3) f_is_between fd_is_between
  b_is_between : Binds K fd_is_between ["low", "high", "thing"] []
  g_is_between : mg "is_between" = some (.ref f_is_between)
  k_is_between : PySem.W.keepIn K (.ref f_is_between) = true
  f_is_tuple_of : Addr
  fd_is_tuple_of : FuncData
  F_is_tuple_of : Fun K "is_tuple_of" "is_tuple_of" (topS 4) f_is_tuple_of fd_is_tuple_of
  b_is_tuple_of : Binds K fd_is_tuple_of ["low", "high", "thing"] []
  g_is_tuple_of : mg "is_tuple_of" = some (.ref f_is_tuple_of)
  k_is_tuple_of : PySem.W.keepIn K (.ref f_is_tuple_of) = true
  f_is_fraction : Addr
  fd_is_fraction : FuncData
  F_is_fraction : Fun K "is_fraction" "is_fraction" (topS 5) f_is_fraction fd_is_fraction
  b_is_fraction : Binds K fd_is_fraction ["thing"] []
  g_is_fraction : mg "is_fraction" = some (.ref f_is_fraction)
  k_is_fraction : PySem.W.keepIn K (.ref f_is_fraction) = true
  f_at_most : Addr
  fd_at_most : FuncData
  F_at_most : Fun K "at_most" "at_most" (topS 7) f_at_most fd_at_most
  b_at_most : Binds K fd_at_most ["one", "other"] []
  g_at_most : mg "at_most" = some (.ref f_at_most)
  k_at_most : PySem.W.keepIn K (.ref f_at_most) = true
  f_is_threshold : Addr
  fd_is_threshold : FuncData
  F_is_threshold : Fun K "is_threshold" "is_threshold" (topS 19) f_is_threshold fd_is_threshold
  b_is_threshold : Binds K fd_is_threshold ["thing"] []
  g_is_threshold : mg "is_threshold" = some (.ref f_is_threshold)
  k_is_threshold : PySem.W.keepIn K (.ref f_is_threshold) = true
  f_is_list : Addr
  fd_is_list : FuncData
  F_is_list : Fun K "is_list" "is_list" (topS 20) f_is_list fd_is_list
  b_is_list : Binds K fd_is_list ["thing"] []
  g_is_list : mg "is_list" = some (.ref f_is_list)
  k_is_list : PySem.W.keepIn K (.ref f_is_list) = true
  f_ascends : Addr
  fd_ascends : FuncData
  F_ascends : Fun K "ascends" "ascends" (topS 6) f_ascends fd_ascends
  b_ascends : Binds K fd_ascends ["things"] []
  g_ascends : mg "ascends" = some (.ref f_ascends)
  k_ascends : PySem.W.keepIn K (.ref f_ascends) = true
  f_is_width : Addr
  fd_is_width : FuncData
  F_is_width : Fun K "is_width" "is_width" (topS 21) f_is_width fd_is_width
  b_is_width : Binds K fd_is_width ["thing"] []
  g_is_width : mg "is_width" = some (.ref f_is_width)
  k_is_width : PySem.W.keepIn K (.ref f_is_width) = true
  f_is_widths : Addr
  fd_is_widths : FuncData
  F_is_widths : Fun K "is_widths" "is_widths" (topS 25) f_is_widths fd_is_widths
  b_is_widths : Binds K fd_is_widths ["thing"] []
  g_is_widths : mg "is_widths" = some (.ref f_is_widths)
  k_is_widths : PySem.W.keepIn K (.ref f_is_widths) = true
  f_is_pipe : Addr
  fd_is_pipe : FuncData
  F_is_pipe : Fun K "is_pipe" "is_pipe" (topS 26) f_is_pipe fd_is_pipe
  b_is_pipe : Binds K fd_is_pipe ["vessels", "thing"] []
  g_is_pipe : mg "is_pipe" = some (.ref f_is_pipe)
  k_is_pipe : PySem.W.keepIn K (.ref f_is_pipe) = true
  f_Web__init__ : Addr
  fd_Web__init__ : FuncData
  F_Web__init__ : Fun K "__init__" "Web.__init__" (inClass (topS 27) 0) f_Web__init__ fd_Web__init__
  b_Web__init__ : Binds K fd_Web__init__ ["self", "widths", "pipes"] []
  f_pipe_counts : Addr
  fd_pipe_counts : FuncData
  F_pipe_counts : Fun K "pipe_counts" "pipe_counts" (topS 28) f_pipe_counts fd_pipe_counts
  b_pipe_counts : Binds K fd_pipe_counts ["web"] []
  g_pipe_counts : mg "pipe_counts" = some (.ref f_pipe_counts)
  k_pipe_counts : PySem.W.keepIn K (.ref f_pipe_counts) = true
  f_is_sort : Addr
  fd_is_sort : FuncData
  F_is_sort : Fun K "is_sort" "is_sort" (topS 33) f_is_sort fd_is_sort
  b_is_sort : Binds K fd_is_sort ["thing"] []
  g_is_sort : mg "is_sort" = some (.ref f_is_sort)
  k_is_sort : PySem.W.keepIn K (.ref f_is_sort) = true
  f_is_sort_tuple : Addr
  fd_is_sort_tuple : FuncData
  F_is_sort_tuple : Fun K "is_sort_tuple" "is_sort_tuple" (topS 34) f_is_sort_tuple fd_is_sort_tuple
  b_is_sort_tuple : Binds K fd_is_sort_tuple ["thing"] []
  g_is_sort_tuple : mg "is_sort_tuple" = some (.ref f_is_sort_tuple)
  k_is_sort_tuple : PySem.W.keepIn K (.ref f_is_sort_tuple) = true
  f_is_join : Addr
  fd_is_join : FuncData
  F_is_join : Fun K "is_join" "is_join" (topS 35) f_is_join fd_is_join
  b_is_join : Binds K fd_is_join ["sorts", "thing"] []
  g_is_join : mg "is_join" = some (.ref f_is_join)
  k_is_join : PySem.W.keepIn K (.ref f_is_join) = true
  f_is_kind : Addr
  fd_is_kind : FuncData
  F_is_kind : Fun K "is_kind" "is_kind" (topS 36) f_is_kind fd_is_kind
  b_is_kind : Binds K fd_is_kind ["sorts", "thing"] []
  g_is_kind : mg "is_kind" = some (.ref f_is_kind)
  k_is_kind : PySem.W.keepIn K (.ref f_is_kind) = true
  f_Book__init__ : Addr
  fd_Book__init__ : FuncData
  F_Book__init__ : Fun K "__init__" "Book.__init__" (inClass (topS 37) 0) f_Book__init__ fd_Book__init__
  b_Book__init__ : Binds K fd_Book__init__ ["self", "sorts", "kinds"] []
  f_may_join : Addr
  fd_may_join : FuncData
  F_may_join : Fun K "may_join" "may_join" (topS 38) f_may_join fd_may_join
  b_may_join : Binds K fd_may_join ["book", "thresholds", "one", "other"] []
  g_may_join : mg "may_join" = some (.ref f_may_join)
  k_may_join : PySem.W.keepIn K (.ref f_may_join) = true
  f_exceeds_cap : Addr
  fd_exceeds_cap : FuncData
  F_exceeds_cap : Fun K "exceeds_cap" "exceeds_cap" (topS 39) f_exceeds_cap fd_exceeds_cap
  b_exceeds_cap : Binds K fd_exceeds_cap ["book", "sort", "count"] []
  g_exceeds_cap : mg "exceeds_cap" = some (.ref f_exceeds_cap)
  k_exceeds_cap : PySem.W.keepIn K (.ref f_exceeds_cap) = true
  f_is_sorts : Addr
  fd_is_sorts : FuncData
  F_is_sorts : Fun K "is_sorts" "is_sorts" (topS 40) f_is_sorts fd_is_sorts
  b_is_sorts : Binds K fd_is_sorts ["book", "web", "thing"] []
  g_is_sorts : mg "is_sorts" = some (.ref f_is_sorts)
  k_is_sorts : PySem.W.keepIn K (.ref f_is_sorts) = true
  f_first_fault : Addr
  fd_first_fault : FuncData
  F_first_fault : Fun K "first_fault" "first_fault" (topS 41) f_first_fault fd_first_fault
  b_first_fault : Binds K fd_first_fault ["book", "web", "sorts"] []
  g_first_fault : mg "first_fault" = some (.ref f_first_fault)
  k_first_fault : PySem.W.keepIn K (.ref f_first_fault) = true
  f_fault : Addr
  fd_fault : FuncData
  F_fault : Fun K "fault" "fault" (topS 42) f_fault fd_fault
  b_fault : Binds K fd_fault ["book", "web", "sorts"] []
  g_fault : mg "fault" = some (.ref f_fault)
  k_fault : PySem.W.keepIn K (.ref f_fault) = true
  f__law_source : Addr
  fd__law_source : FuncData
  F__law_source : Fun K "_law_source" "_law_source" (topS 44) f__law_source fd__law_source
  b__law_source : Binds K fd__law_source ["script"] []
  g__law_source : mg "_law_source" = some (.ref f__law_source)
  k__law_source : PySem.W.keepIn K (.ref f__law_source) = true
  f__law_mixed : Addr
  fd__law_mixed : FuncData
  F__law_mixed : Fun K "_law_mixed" "_law_mixed" (topS 45) f__law_mixed fd__law_mixed
  b__law_mixed : Binds K fd__law_mixed ["number", "turn"] []
  g__law_mixed : mg "_law_mixed" = some (.ref f__law_mixed)
  k__law_mixed : PySem.W.keepIn K (.ref f__law_mixed) = true
  f__law_draw : Addr
  fd__law_draw : FuncData
  F__law_draw : Fun K "_law_draw" "_law_draw" (topS 46) f__law_draw fd__law_draw
  b__law_draw : Binds K fd__law_draw ["source", "many"] []
  g__law_draw : mg "_law_draw" = some (.ref f__law_draw)
  k__law_draw : PySem.W.keepIn K (.ref f__law_draw) = true
  f__law_pick : Addr
  fd__law_pick : FuncData
  F__law_pick : Fun K "_law_pick" "_law_pick" (topS 47) f__law_pick fd__law_pick
  b__law_pick : Binds K fd__law_pick ["source", "row"] []
  g__law_pick : mg "_law_pick" = some (.ref f__law_pick)
  k__law_pick : PySem.W.keepIn K (.ref f__law_pick) = true
  f__law_divisor : Addr
  fd__law_divisor : FuncData
  F__law_divisor : Fun K "_law_divisor" "_law_divisor" (topS 48) f__law_divisor fd__law_divisor
  b__law_divisor : Binds K fd__law_divisor ["one", "other"] []
  g__law_divisor : mg "_law_divisor" = some (.ref f__law_divisor)
  k__law_divisor : PySem.W.keepIn K (.ref f__law_divisor) = true
  f__law_made : Addr
  fd__law_made : FuncData
  F__law_made : Fun K "_law_made" "_law_made" (topS 49) f__law_made fd__law_made
  b__law_made : Binds K fd__law_made ["top", "bottom"] []
  g__law_made : mg "_law_made" = some (.ref f__law_made)
  k__law_made : PySem.W.keepIn K (.ref f__law_made) = true
  f__law_same : Addr
  fd__law_same : FuncData
  F__law_same : Fun K "_law_same" "_law_same" (topS 50) f__law_same fd__law_same
  b__law_same : Binds K fd__law_same ["actual", "expected"] []
  g__law_same : mg "_law_same" = some (.ref f__law_same)
  k__law_same : PySem.W.keepIn K (.ref f__law_same) = true
  f__law_met : Addr
  fd__law_met : FuncData
  F__law_met : Fun K "_law_met" "_law_met" (topS 51) f__law_met fd__law_met
  b__law_met : Binds K fd__law_met ["found", "due"] []
  g__law_met : mg "_law_met" = some (.ref f__law_met)
  k__law_met : PySem.W.keepIn K (.ref f__law_met) = true
  f__law_integer : Addr
  fd__law_integer : FuncData
  F__law_integer : Fun K "_law_integer" "_law_integer" (topS 52) f__law_integer fd__law_integer
  b__law_integer : Binds K fd__law_integer ["thing"] []
  g__law_integer : mg "_law_integer" = some (.ref f__law_integer)
  k__law_integer : PySem.W.keepIn K (.ref f__law_integer) = true
  f__law_deep : Addr
  fd__law_deep : FuncData
  F__law_deep : Fun K "_law_deep" "_law_deep" (topS 53) f__law_deep fd__law_deep
  b__law_deep : Binds K fd__law_deep ["many"] []
  g__law_deep : mg "_law_deep" = some (.ref f__law_deep)
  k__law_deep : PySem.W.keepIn K (.ref f__law_deep) = true
  f__law_strange : Addr
  fd__law_strange : FuncData
  F__law_strange : Fun K "_law_strange" "_law_strange" (topS 54) f__law_strange fd__law_strange
  b__law_strange : Binds K fd__law_strange ["source"] []
  g__law_strange : mg "_law_strange" = some (.ref f__law_strange)
  k__law_strange : PySem.W.keepIn K (.ref f__law_strange) = true
  f__law_in_order : Addr
  fd__law_in_order : FuncData
  F__law_in_order : Fun K "_law_in_order" "_law_in_order" (topS 55) f__law_in_order fd__law_in_order
  b__law_in_order : Binds K fd__law_in_order ["steps"] []
  g__law_in_order : mg "_law_in_order" = some (.ref f__law_in_order)
  k__law_in_order : PySem.W.keepIn K (.ref f__law_in_order) = true
  f__law_steps : Addr
  fd__law_steps : FuncData
  F__law_steps : Fun K "_law_steps" "_law_steps" (topS 56) f__law_steps fd__law_steps
  b__law_steps : Binds K fd__law_steps ["source", "most", "wide"] []
  g__law_steps : mg "_law_steps" = some (.ref f__law_steps)
  k__law_steps : PySem.W.keepIn K (.ref f__law_steps) = true
  f__law_pipe : Addr
  fd__law_pipe : FuncData
  F__law_pipe : Fun K "_law_pipe" "_law_pipe" (topS 57) f__law_pipe fd__law_pipe
  b__law_pipe : Binds K fd__law_pipe ["source", "vessels", "most", "wide"] []
  g__law_pipe : mg "_law_pipe" = some (.ref f__law_pipe)
  k__law_pipe : PySem.W.keepIn K (.ref f__law_pipe) = true
  f__law_with : Addr
  fd__law_with : FuncData
  F__law_with : Fun K "_law_with" "_law_with" (topS 58) f__law_with fd__law_with
  b__law_with : Binds K fd__law_with ["row", "place", "thing"] []
  g__law_with : mg "_law_with" = some (.ref f__law_with)
  k__law_with : PySem.W.keepIn K (.ref f__law_with) = true
  f__law_joins : Addr
  fd__law_joins : FuncData
  F__law_joins : Fun K "_law_joins" "_law_joins" (topS 59) f__law_joins fd__law_joins
  b__law_joins : Binds K fd__law_joins ["source", "sorts"] []
  g__law_joins : mg "_law_joins" = some (.ref f__law_joins)
  k__law_joins : PySem.W.keepIn K (.ref f__law_joins) = true
  f__law_sorts : Addr
  fd__law_sorts : FuncData
  F__law_sorts : Fun K "_law_sorts" "_law_sorts" (topS 60) f__law_sorts fd__law_sorts
  b__law_sorts : Binds K fd__law_sorts ["source", "many", "wide"] []
  g__law_sorts : mg "_law_sorts" = some (.ref f__law_sorts)
  k__law_sorts : PySem.W.keepIn K (.ref f__law_sorts) = true
  f__law_kinds : Addr
  fd__law_kinds : FuncData
  F__law_kinds : Fun K "_law_kinds" "_law_kinds" (topS 61) f__law_kinds fd__law_kinds
  b__law_kinds : Binds K fd__law_kinds ["source", "sorts", "many", "wide"] []
  g__law_kinds : mg "_law_kinds" = some (.ref f__law_kinds)
  k__law_kinds : PySem.W.keepIn K (.ref f__law_kinds) = true
  f__law_woven : Addr
  fd__law_woven : FuncData
  F__law_woven : Fun K "_law_woven" "_law_woven" (topS 62) f__law_woven fd__law_woven
  b__law_woven : Binds K fd__law_woven ["source", "sorts", "kinds", "vessels", "many"] []
  g__law_woven : mg "_law_woven" = some (.ref f__law_woven)
  k__law_woven : PySem.W.keepIn K (.ref f__law_woven) = true
  f__law_fault : Addr
  fd__law_fault : FuncData
  F__law_fault : Fun K "_law_fault" "_law_fault" (topS 63) f__law_fault fd__law_fault
  b__law_fault : Binds K fd__law_fault ["book", "web", "sorts"] []
  g__law_fault : mg "_law_fault" = some (.ref f__law_fault)
  k__law_fault : PySem.W.keepIn K (.ref f__law_fault) = true
  f__law_told : Addr
  fd__law_told : FuncData
  F__law_told : Fun K "_law_told" "_law_told" (topS 64) f__law_told fd__law_told
  b__law_told : Binds K fd__law_told ["action"] []
  g__law_told : mg "_law_told" = some (.ref f__law_told)
  k__law_told : PySem.W.keepIn K (.ref f__law_told) = true
  f__law_are_sorts_of : Addr
  fd__law_are_sorts_of : FuncData
  F__law_are_sorts_of : Fun K "_law_are_sorts_of" "_law_are_sorts_of" (topS 65) f__law_are_sorts_of fd__law_are_sorts_of
  b__law_are_sorts_of : Binds K fd__law_are_sorts_of ["thing", "vessels", "many"] []
  g__law_are_sorts_of : mg "_law_are_sorts_of" = some (.ref f__law_are_sorts_of)
  k__law_are_sorts_of : PySem.W.keepIn K (.ref f__law_are_sorts_of) = true
  f__law_changed : Addr
  fd__law_changed : FuncData
  F__law_changed : Fun K "_law_changed" "_law_changed" (topS 66) f__law_changed fd__law_changed
  b__law_changed : Binds K fd__law_changed ["source", "kind", "book", "web"] []
  g__law_changed : mg "_law_changed" = some (.ref f__law_changed)
  k__law_changed : PySem.W.keepIn K (.ref f__law_changed) = true
  Z : CT
  fi_NoSorts : Addr
  x_NoSorts : Exc0 K mg "NoSorts" "NoSorts.__init__" Z.C_NoSorts fi_NoSorts
  cm_Book : Mk K Z.C_Book f_Book__init__
  gc_Book : mg "Book" = some (.ref Z.C_Book)
  it_Book : InsTy K Z.C_Book
  ok_Book : OkD K (.oth (.ref Z.C_Book))
  cm_Web : Mk K Z.C_Web f_Web__init__
  gc_Web : mg "Web" = some (.ref Z.C_Web)
  it_Web : InsTy K Z.C_Web
  ok_Web : OkD K (.oth (.ref Z.C_Web))
  gc_TidesError : mg "TidesError" = some (.ref Z.C_TidesError)
  gc_NoSort : mg "NoSort" = some (.ref Z.C_NoSort)
  fi_BadBook : Addr
  fdx_BadBook : FuncData
  Fx_BadBook : Fun K "__init__" "BadBook.__init__" (inClass (topS 11) 0) fi_BadBook fdx_BadBook
  bx_BadBook : Binds K fdx_BadBook ["self", "part"] []
  gx_BadBook : mg "BadBook" = some (.ref Z.C_BadBook)
  ox_BadBook : OexC K Z.C_BadBook
  xi_BadBook : PySem.W.findIn K (.ref Z.C_BadBook) "__init__" = some (some (.ref fi_BadBook))
  xt_BadBook : PySem.W.typeIn K (.ref fi_BadBook) = some (.type "function")
  no_BadBook : PySem.W.findIn K (.ref Z.C_BadBook) "part" = some none
  xf_BadBook : L2.XfC K Z.C_BadBook
  fi_BadWeb : Addr
  fdx_BadWeb : FuncData
  Fx_BadWeb : Fun K "__init__" "BadWeb.__init__" (inClass (topS 10) 0) fi_BadWeb fdx_BadWeb
  bx_BadWeb : Binds K fdx_BadWeb ["self", "part"] []
  gx_BadWeb : mg "BadWeb" = some (.ref Z.C_BadWeb)
  ox_BadWeb : OexC K Z.C_BadWeb
  xi_BadWeb : PySem.W.findIn K (.ref Z.C_BadWeb) "__init__" = some (some (.ref fi_BadWeb))
  xt_BadWeb : PySem.W.typeIn K (.ref fi_BadWeb) = some (.type "function")
  no_BadWeb : PySem.W.findIn K (.ref Z.C_BadWeb) "part" = some none
  xf_BadWeb : L2.XfC K Z.C_BadWeb
  na_Book_kinds : NoAttr K Z.C_Book "kinds"
  na_Book_sorts : NoAttr K Z.C_Book "sorts"
  na_Web_pipes : NoAttr K Z.C_Web "pipes"
  na_Web_widths : NoAttr K Z.C_Web "widths"
  z_abs : mg "abs" = none
  z_all : mg "all" = none
  z_any : mg "any" = none
  z_bool : mg "bool" = none
  z_enumerate : mg "enumerate" = none
  z_int : mg "int" = none
  z_isinstance : mg "isinstance" = none
  z_len : mg "len" = none
  z_list : mg "list" = none
  z_max : mg "max" = none
  z_min : mg "min" = none
  z_range : mg "range" = none
  z_sorted : mg "sorted" = none
  z_str : mg "str" = none
  z_tuple : mg "tuple" = none
  z_zip : mg "zip" = none
  t_MOST_BOTTOM : Tok
  c_MOST_BOTTOM : mg "MOST_BOTTOM" = some (.int 144 t_MOST_BOTTOM)
  t_MOST_CAP : Tok
  c_MOST_CAP : mg "MOST_CAP" = some (.int 6 t_MOST_CAP)
  t_MOST_KINDS : Tok
  c_MOST_KINDS : mg "MOST_KINDS" = some (.int 5 t_MOST_KINDS)
  t_MOST_PIPES : Tok
  c_MOST_PIPES : mg "MOST_PIPES" = some (.int 36 t_MOST_PIPES)
  t_MOST_SORTS : Tok
  c_MOST_SORTS : mg "MOST_SORTS" = some (.int 4 t_MOST_SORTS)
  t_MOST_THRESHOLDS : Tok
  c_MOST_THRESHOLDS : mg "MOST_THRESHOLDS" = some (.int 6 t_MOST_THRESHOLDS)
  t_MOST_TOP : Tok
  c_MOST_TOP : mg "MOST_TOP" = some (.int 1000000 t_MOST_TOP)
  t_MOST_VESSELS : Tok
  c_MOST_VESSELS : mg "MOST_VESSELS" = some (.int 12 t_MOST_VESSELS)
  t_MOST_WIDTH : Tok
  c_MOST_WIDTH : mg "MOST_WIDTH" = some (.int 12 t_MOST_WIDTH)
  m_gcd : mg "gcd" = some (.builtin "math.gcd")
abbrev sx_BadBook : Stmt := inClass (topS 11) 0
theorem scx_BadBook : FnScope ["self", "part"] ["self", "part"] (defScope sx_BadBook) := ⟨rfl, rfl, rfl, by decide +kernel, rfl, by decide +kernel, by decide +kernel⟩
theorem okx_BadBook [TB : TabT] {P : Program} {w : World} {K : PySem.W.Frag} {mg : Str → Option Value} {base : Heap} (T : Txt K mg) : FnOk P w K mg base (L2.CX P w) 1 T.fi_BadBook T.fdx_BadBook ["self", "part"] (spX1 K T.Z.C_BadBook "part") := exc1_ok T.Fx_BadBook scx_BadBook rfl (by decide) (fun _ => rfl) T.ox_BadBook T.no_BadBook fun _ _ _ _ _ _ => ⟨pv 0, pv 1⟩
abbrev sx_BadWeb : Stmt := inClass (topS 10) 0
theorem scx_BadWeb : FnScope ["self", "part"] ["self", "part"] (defScope sx_BadWeb) := ⟨rfl, rfl, rfl, by decide +kernel, rfl, by decide +kernel, by decide +kernel⟩
theorem okx_BadWeb [TB : TabT] {P : Program} {w : World} {K : PySem.W.Frag} {mg : Str → Option Value} {base : Heap} (T : Txt K mg) : FnOk P w K mg base (L2.CX P w) 1 T.fi_BadWeb T.fdx_BadWeb ["self", "part"] (spX1 K T.Z.C_BadWeb "part") := exc1_ok T.Fx_BadWeb scx_BadWeb rfl (by decide) (fun _ => rfl) T.ox_BadWeb T.no_BadWeb fun _ _ _ _ _ _ => ⟨pv 0, pv 1⟩
section
variable [TB : TabT] {P : Program} {w : World} {K : PySem.W.Frag} {mg : Str → Option Value} {base : Heap}
abbrev s_is_integer : Stmt := topS 2
theorem sc_is_integer : FnScope ["thing"] ["thing"] (defScope s_is_integer) := ⟨rfl, rfl, rfl, by decide +kernel, rfl, by decide +kernel, by decide +kernel⟩
def w_is_integer (K : PySem.W.Frag) : SW := (wRet (wAndV (wCB (gIsi K) (wCons (wVar 0) (wCons (wC (.ty "int")) wNil))) (wNotV (wCB (gIsi K) (wCons (wVar 0) (wCons (wC (.ty "bool")) wNil))))))
def isIntD : D → Bool | .int _ => true | _ => false
def fs_is_integer (K : PySem.W.Frag) : FS := fun cs q _ => ∃ d, cs = [.dat d] ∧ OkD K d ∧ q (.bl (isIntD d)) [.dat d]
theorem pure_is_integer : PureD 1 0 (fs_is_integer K) (w_is_integer K) := by
  rintro cs q e - ⟨d, rfl, hd, hq⟩
  simp only [w_is_integer, gIsi_iff hd (show "int" ∈ kinds by simp), gIsi_iff hd (show "bool" ∈ kinds by simp), wAugOwn, wEnumL, wTru, wSlA, gCatA, gLtT, gLeT, wFrz, wChain3, wAttr, wMkF, wEnumT, wRevT, wDict0, wDict1, numD3, Nat.reduceAdd, atI0, atI1, atI2, atI3, atI4, ixN51, ixN52, ixN53, List.length_map, wNever, scal, V.int.injEq, V.str.injEq, V.bl.injEq, wSq, wNext, wBreak, wCont, wDrop, wRet, wRetN, wIfS, wAsg, wPar, wLstOwn, wAppend, wSetOwn, wIxOwn, wPeek, wRetOwn, wRetFr, wFor, wB, wNot, wAnd, wOr, wAndV, wOrV, wNotV, wIf, wChain, wNil, wCons, wCB, wTup, wLst, wNoPart, wPart, wSlT, wSlL, wSeq, wRng1, wRng2, wZip, wName, wNilT, wConsT, wTupT, wYes, wNeg, wVar, wC, wOp, wcNil, wcCons, wcOwn, wCall, wCallOwn, slots, cellsOf, OwnArgs, putBack, g2I, g2IC, gLen, gAbs, gGcd, gInt1, gTupleOf, gListOf, gIx, gCatT, gCat, gEq, gNe, gIsN, gNotN, scD, seqD_t, seqD_l, seqD_f, isNonD, List.nodup_cons, List.mem_cons, List.not_mem_nil, or_false, not_false_eq_true, Nat.reduceEqDiff, L3.Keeps, ends, wipeD, List.replicate, List.cons_append, List.nil_append, List.append_nil, List.getElem?_cons_zero, List.getElem?_cons_succ, List.set_cons_zero, List.set_cons_succ, List.getD_cons_zero, List.getD_cons_succ, List.length_cons, List.length_nil, List.nodup_nil, Option.some.injEq, Cell.dat.injEq, Cell.own.injEq, Cont.lst.injEq, D.bl.injEq, D.int.injEq, D.str.injEq, D.tup.injEq, D.lst.injEq, Arg.d.injEq, List.cons.injEq, exists_and_left, exists_and_right, exists_eq_left', exists_eq_left, exists_eq_right, exists_eq_right', exists_eq, exists_eq', and_true, true_and, and_assoc, and_self, exists_const, reduceCtorEq]
  cases d <;> simp_all [isiD, isIntD]
theorem ok_is_integer (T : Txt K mg) : FnOk P w K mg base (L2.CX P w) 1 T.f_is_integer T.fd_is_integer ["thing"] (spOf K 1 (fs_is_integer K)) := by
  refine def_ok T.F_is_integer sc_is_integer (wb := w_is_integer K) pure_is_integer ?_
  intro cdv A outer s H E hr tk
  exact ⟨_, (pss_one (ps_ret (pe_and (pe_callB call_isi (by rfl) T.z_isinstance (by decide +kernel) (pa_cons (pv 0) (pa_cons (pe_bltn (v := .ty "int") (by rfl) T.z_int (by decide +kernel) rfl) pa_nil))) (pe_one (pe_not (pe_callB call_isi (by rfl) T.z_isinstance (by decide +kernel) (pa_cons (pv 0) (pa_cons (pe_bltn (v := .ty "bool") (by rfl) T.z_bool (by decide +kernel) rfl) pa_nil)))))))),
    (ds_ret (de_and (de_cb o_isi (da_cons (de_var 0) (da_cons de_ty da_nil))) (de_not (de_cb o_isi (da_cons (de_var 0) (da_cons de_ty da_nil))))))⟩
abbrev s_is_between : Stmt := topS 3
theorem sc_is_between : FnScope ["low", "high", "thing"] ["low", "high", "thing"] (defScope s_is_between) := ⟨rfl, rfl, rfl, by decide +kernel, rfl, by decide +kernel, by decide +kernel⟩
def w_is_between (K : PySem.W.Frag) : SW := (wRet (wAndV (wCall 1 (fs_is_integer K) (wcCons (wVar 2) wcNil)) (wChain gLeI gLeI (wVar 0) (wVar 2) (wVar 1))))
def isBetw (l h : Int) : D → Bool | .int i => decide (l ≤ i) && decide (i ≤ h) | _ => false
def fs_is_between (K : PySem.W.Frag) : FS := fun cs q _ => ∃ (l h : Int) (d : D), cs = [.dat (.int l), .dat (.int h), .dat d] ∧ OkD K d ∧ q (.bl (isBetw l h d)) cs
theorem pure_is_between : PureD 3 0 (fs_is_between K) (w_is_between K) := by
  rintro cs q e - ⟨l, h, d, rfl, hd, hq⟩
  simp only [w_is_between, fs_is_integer, hd, wAugOwn, wEnumL, wTru, wSlA, gCatA, gLtT, gLeT, wFrz, wChain3, wAttr, wMkF, wEnumT, wRevT, wDict0, wDict1, numD3, Nat.reduceAdd, atI0, atI1, atI2, atI3, atI4, ixN51, ixN52, ixN53, List.length_map, wNever, scal, V.int.injEq, V.str.injEq, V.bl.injEq, wSq, wNext, wBreak, wCont, wDrop, wRet, wRetN, wIfS, wAsg, wPar, wLstOwn, wAppend, wSetOwn, wIxOwn, wPeek, wRetOwn, wRetFr, wFor, wB, wNot, wAnd, wOr, wAndV, wOrV, wNotV, wIf, wChain, wNil, wCons, wCB, wTup, wLst, wNoPart, wPart, wSlT, wSlL, wSeq, wRng1, wRng2, wZip, wName, wNilT, wConsT, wTupT, wYes, wNeg, wVar, wC, wOp, wcNil, wcCons, wcOwn, wCall, wCallOwn, slots, cellsOf, OwnArgs, putBack, g2I, g2IC, gLen, gAbs, gGcd, gInt1, gTupleOf, gListOf, gIx, gCatT, gCat, gEq, gNe, gIsN, gNotN, scD, seqD_t, seqD_l, seqD_f, isNonD, List.nodup_cons, List.mem_cons, List.not_mem_nil, or_false, not_false_eq_true, Nat.reduceEqDiff, L3.Keeps, ends, wipeD, List.replicate, List.cons_append, List.nil_append, List.append_nil, List.getElem?_cons_zero, List.getElem?_cons_succ, List.set_cons_zero, List.set_cons_succ, List.getD_cons_zero, List.getD_cons_succ, List.length_cons, List.length_nil, List.nodup_nil, Option.some.injEq, Cell.dat.injEq, Cell.own.injEq, Cont.lst.injEq, D.bl.injEq, D.int.injEq, D.str.injEq, D.tup.injEq, D.lst.injEq, Arg.d.injEq, List.cons.injEq, exists_and_left, exists_and_right, exists_eq_left', exists_eq_left, exists_eq_right, exists_eq_right', exists_eq, exists_eq', and_true, true_and, and_assoc, and_self, exists_const, reduceCtorEq]
  cases d <;> simp_all [isIntD, isBetw]
  rename_i i
  refine ⟨fun h1 => ?_, fun h1 => ?_⟩
  · simpa [h1] using hq
  · have h2 : ¬ l ≤ i := by omega
    simpa [h2] using hq
theorem betw_int {l h : Int} {d : D} (e : isBetw l h d = true) : ∃ i, d = .int i ∧ l ≤ i ∧ i ≤ h := by
  cases d <;> simp [isBetw] at e
  exact ⟨_, rfl, e.1, e.2⟩
theorem ok_is_between (T : Txt K mg) : FnOk P w K mg base (L2.CX P w) 2 T.f_is_between T.fd_is_between ["low", "high", "thing"] (spOf K 3 (fs_is_between K)) := by
  refine def_ok T.F_is_between sc_is_between (wb := w_is_between K) pure_is_between ?_
  intro cdv A outer s H E hr tk
  exact ⟨_, (pss_one (ps_ret (pe_and (pe_callS (ok_is_integer T) (hr.mono (by decide)) rfl T.g_is_integer T.k_is_integer T.b_is_integer (fun σ => passAt tk σ) (pa_cons (pv 2) pa_nil)) (pe_one (pe_chain op_le op_le (pv 0) (pv 2) (pv 1)))))),
    (ds_ret (de_and (de_call (n := 1) (fs := fs_is_integer K) (dac_cons (de_var 2) dac_nil)) (de_chain o_le o_le (de_var 0) (de_var 2) (de_var 1))))⟩
abbrev s_is_tuple_of : Stmt := topS 4
theorem sc_is_tuple_of : FnScope ["low", "high", "thing"] ["low", "high", "thing"] (defScope s_is_tuple_of) := ⟨rfl, rfl, rfl, by decide +kernel, rfl, by decide +kernel, by decide +kernel⟩
def w_is_tuple_of (K : PySem.W.Frag) : SW := (wRet (wAndV (wCB (gIsi K) (wCons (wVar 2) (wCons (wC (.ty "tuple")) wNil))) (wChain gLeI gLeI (wVar 0) (wCB gLen (wCons (wVar 2) wNil)) (wVar 1))))
def isTupOf (l h : Int) : D → Bool | .tup ds => decide (l ≤ ds.length) && decide ((ds.length : Int) ≤ h) | _ => false
def fs_is_tuple_of (K : PySem.W.Frag) : FS := fun cs q _ => ∃ (l h : Int) (d : D), cs = [.dat (.int l), .dat (.int h), .dat d] ∧ OkD K d ∧ q (.bl (isTupOf l h d)) cs
theorem pure_is_tuple_of : PureD 3 0 (fs_is_tuple_of K) (w_is_tuple_of K) := by
  rintro cs q e - ⟨l, h, d, rfl, hd, hq⟩
  simp only [w_is_tuple_of, gIsi_iff hd (show "tuple" ∈ kinds by simp), wAugOwn, wEnumL, wTru, wSlA, gCatA, gLtT, gLeT, wFrz, wChain3, wAttr, wMkF, wEnumT, wRevT, wDict0, wDict1, numD3, Nat.reduceAdd, atI0, atI1, atI2, atI3, atI4, ixN51, ixN52, ixN53, List.length_map, wNever, scal, V.int.injEq, V.str.injEq, V.bl.injEq, wSq, wNext, wBreak, wCont, wDrop, wRet, wRetN, wIfS, wAsg, wPar, wLstOwn, wAppend, wSetOwn, wIxOwn, wPeek, wRetOwn, wRetFr, wFor, wB, wNot, wAnd, wOr, wAndV, wOrV, wNotV, wIf, wChain, wNil, wCons, wCB, wTup, wLst, wNoPart, wPart, wSlT, wSlL, wSeq, wRng1, wRng2, wZip, wName, wNilT, wConsT, wTupT, wYes, wNeg, wVar, wC, wOp, wcNil, wcCons, wcOwn, wCall, wCallOwn, slots, cellsOf, OwnArgs, putBack, g2I, g2IC, gLen, gAbs, gGcd, gInt1, gTupleOf, gListOf, gIx, gCatT, gCat, gEq, gNe, gIsN, gNotN, scD, seqD_t, seqD_l, seqD_f, isNonD, List.nodup_cons, List.mem_cons, List.not_mem_nil, or_false, not_false_eq_true, Nat.reduceEqDiff, L3.Keeps, ends, wipeD, List.replicate, List.cons_append, List.nil_append, List.append_nil, List.getElem?_cons_zero, List.getElem?_cons_succ, List.set_cons_zero, List.set_cons_succ, List.getD_cons_zero, List.getD_cons_succ, List.length_cons, List.length_nil, List.nodup_nil, Option.some.injEq, Cell.dat.injEq, Cell.own.injEq, Cont.lst.injEq, D.bl.injEq, D.int.injEq, D.str.injEq, D.tup.injEq, D.lst.injEq, Arg.d.injEq, List.cons.injEq, exists_and_left, exists_and_right, exists_eq_left', exists_eq_left, exists_eq_right, exists_eq_right', exists_eq, exists_eq', and_true, true_and, and_assoc, and_self, exists_const, reduceCtorEq]
  cases d <;> simp_all [isiD, isTupOf, seqD]
  rename_i ds
  refine ⟨fun h1 => ?_, fun h1 => ?_⟩
  · simpa [h1] using hq
  · have h2 : ¬ l ≤ (ds.length : Int) := by omega
    simpa [h2] using hq
theorem ok_is_tuple_of (T : Txt K mg) : FnOk P w K mg base (L2.CX P w) 1 T.f_is_tuple_of T.fd_is_tuple_of ["low", "high", "thing"] (spOf K 3 (fs_is_tuple_of K)) := by
  refine def_ok T.F_is_tuple_of sc_is_tuple_of (wb := w_is_tuple_of K) pure_is_tuple_of ?_
  intro cdv A outer s H E hr tk
  exact ⟨_, (pss_one (ps_ret (pe_and (pe_callB call_isi (by rfl) T.z_isinstance (by decide +kernel) (pa_cons (pv 2) (pa_cons (pe_bltn (v := .ty "tuple") (by rfl) T.z_tuple (by decide +kernel) rfl) pa_nil))) (pe_one (pe_chain op_le op_le (pv 0) (pe_callB call_len_seq (by rfl) T.z_len (by decide +kernel) (pa_cons (pv 2) pa_nil)) (pv 1)))))),
    (ds_ret (de_and (de_cb o_isi (da_cons (de_var 2) (da_cons de_ty da_nil))) (de_chain o_le o_le (de_var 0) (de_cb o_len (da_cons (de_var 2) da_nil)) (de_var 1))))⟩
abbrev s_is_fraction : Stmt := topS 5
theorem sc_is_fraction : FnScope ["thing", "top", "bottom"] ["thing"] (defScope s_is_fraction) := ⟨rfl, rfl, rfl, by decide +kernel, rfl, by decide +kernel, by decide +kernel⟩
def w_is_fraction (K : PySem.W.Frag) : SW := (wSq (wIfS (wNot (wB (wCall 3 (fs_is_tuple_of K) (wcCons (wC (.int 2)) (wcCons (wC (.int 2)) (wcCons (wVar 0) wcNil)))))) (wRet (wC (.bl false))) wNext)
  (wSq (wAsg (wVar 0) (wTupT 2 (wConsT (wName 1) (wConsT (wName 2) wNilT))))
  (wRet (wAndV (wCall 1 (fs_is_integer K) (wcCons (wVar 1) wcNil)) (wAndV (wCall 1 (fs_is_integer K) (wcCons (wVar 2) wcNil)) (wAndV (wOp gGeI (wVar 2) (wC (.int 1))) (wOp gEq (wCB gGcd (wCons (wVar 1) (wCons (wVar 2) wNil))) (wC (.int 1)))))))))
def isFr : D → Bool | .tup [.int t, .int b] => decide (1 ≤ b) && decide (Nat.gcd t.natAbs b.natAbs = 1) | _ => false
def fs_is_fraction (K : PySem.W.Frag) : FS := fun cs q _ => ∃ d, cs = [.dat d] ∧ OkD K d ∧ q (.bl (isFr d)) [.dat d]
theorem tup_two {d : D} (h : isTupOf 2 2 d = true) : ∃ x y, d = .tup [x, y] := by
  cases d <;> simp [isTupOf] at h
  rename_i ds
  match ds, h with
  | [], h => simp at h
  | [x], h => simp at h
  | [x, y], _ => exact ⟨x, y, rfl⟩
  | x :: y :: z :: r, h => simp at h; omega
theorem tup_not_two {d : D} (h : isTupOf 2 2 d = false) : isFr d = false := by
  cases d with
  | tup ds =>
    match ds with
    | [] => rfl
    | [x] => cases x <;> rfl
    | [x, y] => simp [isTupOf] at h
    | x :: y :: z :: r => cases x <;> cases y <;> rfl
  | _ => rfl
theorem int_of {x : D} (h : isIntD x = true) : ∃ i, x = .int i := by
  cases x <;> first | exact ⟨_, rfl⟩ | cases h
theorem fr_l {x y : D} (h : isIntD x = false) : isFr (.tup [x, y]) = false := by
  cases x <;> first | rfl | cases h
theorem fr_r {x y : D} (h : isIntD y = false) : isFr (.tup [x, y]) = false := by
  cases x <;> cases y <;> first | rfl | cases h
theorem pure_is_fraction : PureD 1 2 (fs_is_fraction K) (w_is_fraction K) := by
  rintro cs q e - ⟨d, rfl, hd, hq⟩
  cases h : isTupOf 2 2 d with
  | true =>
    obtain ⟨x, y, rfl⟩ := tup_two h
    have hx := okTup hd (d := x) (by simp)
    have hy := okTup hd (d := y) (by simp)
    simp only [w_is_fraction, fs_is_tuple_of, fs_is_integer, h, hd, hx, hy, wAugOwn, wEnumL, wTru, wSlA, gCatA, gLtT, gLeT, wFrz, wChain3, wAttr, wMkF, wEnumT, wRevT, wDict0, wDict1, numD3, Nat.reduceAdd, atI0, atI1, atI2, atI3, atI4, ixN51, ixN52, ixN53, List.length_map, wNever, scal, V.int.injEq, V.str.injEq, V.bl.injEq, wSq, wNext, wBreak, wCont, wDrop, wRet, wRetN, wIfS, wAsg, wPar, wLstOwn, wAppend, wSetOwn, wIxOwn, wPeek, wRetOwn, wRetFr, wFor, wB, wNot, wAnd, wOr, wAndV, wOrV, wNotV, wIf, wChain, wNil, wCons, wCB, wTup, wLst, wNoPart, wPart, wSlT, wSlL, wSeq, wRng1, wRng2, wZip, wName, wNilT, wConsT, wTupT, wYes, wNeg, wVar, wC, wOp, wcNil, wcCons, wcOwn, wCall, wCallOwn, slots, cellsOf, OwnArgs, putBack, g2I, g2IC, gLen, gAbs, gGcd, gInt1, gTupleOf, gListOf, gIx, gCatT, gCat, gEq, gNe, gIsN, gNotN, scD, seqD_t, seqD_l, seqD_f, isNonD, List.nodup_cons, List.mem_cons, List.not_mem_nil, or_false, not_false_eq_true, Nat.reduceEqDiff, L3.Keeps, ends, wipeD, List.replicate, List.cons_append, List.nil_append, List.append_nil, List.getElem?_cons_zero, List.getElem?_cons_succ, List.set_cons_zero, List.set_cons_succ, List.getD_cons_zero, List.getD_cons_succ, List.length_cons, List.length_nil, List.nodup_nil, Option.some.injEq, Cell.dat.injEq, Cell.own.injEq, Cont.lst.injEq, D.bl.injEq, D.int.injEq, D.str.injEq, D.tup.injEq, D.lst.injEq, Arg.d.injEq, List.cons.injEq, exists_and_left, exists_and_right, exists_eq_left', exists_eq_left, exists_eq_right, exists_eq_right', exists_eq, exists_eq', and_true, true_and, and_assoc, and_self, exists_const, reduceCtorEq]
    cases ix : isIntD x with
    | false =>
      rw [fr_l ix] at hq
      simpa using hq
    | true =>
      cases iy : isIntD y with
      | false =>
        rw [fr_r iy] at hq
        simpa using hq
      | true =>
        obtain ⟨t, rfl⟩ := int_of ix
        obtain ⟨b, rfl⟩ := int_of iy
        have e : isFr (.tup [.int t, .int b]) = (decide (1 ≤ b) && decide (((Nat.gcd t.natAbs b.natAbs : Nat) : Int) = 1)) := by
          simp only [isFr]
          congr 1
          exact decide_eq_decide.mpr (by omega)
        rw [e] at hq
        by_cases h1 : 1 ≤ b
        · simp [h1] at hq ⊢
          exact ⟨hq, fun z => absurd z (by omega)⟩
        · simp [h1] at hq ⊢
          exact fun _ => hq
  | false =>
    rw [tup_not_two h] at hq
    simp only [w_is_fraction, fs_is_tuple_of, fs_is_integer, h, hd, wAugOwn, wEnumL, wTru, wSlA, gCatA, gLtT, gLeT, wFrz, wChain3, wAttr, wMkF, wEnumT, wRevT, wDict0, wDict1, numD3, Nat.reduceAdd, atI0, atI1, atI2, atI3, atI4, ixN51, ixN52, ixN53, List.length_map, wNever, scal, V.int.injEq, V.str.injEq, V.bl.injEq, wSq, wNext, wBreak, wCont, wDrop, wRet, wRetN, wIfS, wAsg, wPar, wLstOwn, wAppend, wSetOwn, wIxOwn, wPeek, wRetOwn, wRetFr, wFor, wB, wNot, wAnd, wOr, wAndV, wOrV, wNotV, wIf, wChain, wNil, wCons, wCB, wTup, wLst, wNoPart, wPart, wSlT, wSlL, wSeq, wRng1, wRng2, wZip, wName, wNilT, wConsT, wTupT, wYes, wNeg, wVar, wC, wOp, wcNil, wcCons, wcOwn, wCall, wCallOwn, slots, cellsOf, OwnArgs, putBack, g2I, g2IC, gLen, gAbs, gGcd, gInt1, gTupleOf, gListOf, gIx, gCatT, gCat, gEq, gNe, gIsN, gNotN, scD, seqD_t, seqD_l, seqD_f, isNonD, List.nodup_cons, List.mem_cons, List.not_mem_nil, or_false, not_false_eq_true, Nat.reduceEqDiff, L3.Keeps, ends, wipeD, List.replicate, List.cons_append, List.nil_append, List.append_nil, List.getElem?_cons_zero, List.getElem?_cons_succ, List.set_cons_zero, List.set_cons_succ, List.getD_cons_zero, List.getD_cons_succ, List.length_cons, List.length_nil, List.nodup_nil, Option.some.injEq, Cell.dat.injEq, Cell.own.injEq, Cont.lst.injEq, D.bl.injEq, D.int.injEq, D.str.injEq, D.tup.injEq, D.lst.injEq, Arg.d.injEq, List.cons.injEq, exists_and_left, exists_and_right, exists_eq_left', exists_eq_left, exists_eq_right, exists_eq_right', exists_eq, exists_eq', and_true, true_and, and_assoc, and_self, exists_const, reduceCtorEq]
    simpa using hq
theorem ok_is_fraction (T : Txt K mg) : FnOk P w K mg base (L2.CX P w) 2 T.f_is_fraction T.fd_is_fraction ["thing"] (spOf K 1 (fs_is_fraction K)) := by
  refine def_ok T.F_is_fraction sc_is_fraction (wb := w_is_fraction K) pure_is_fraction ?_
  intro cdv A outer s H E hr tk
  exact ⟨_, (pss_cons (ps_if (pt_not (pt_val (pe_callS (ok_is_tuple_of T) (hr.mono (by decide)) rfl T.g_is_tuple_of T.k_is_tuple_of T.b_is_tuple_of (fun σ => passAt tk σ) (pa_cons pe_int (pa_cons pe_int (pa_cons (pv 0) pa_nil))))))
        (pss_one (ps_ret pe_bl))
        pss_nil)
      (pss_cons (ps_asg (pv 0) (pg_tup (by rfl) (pgs_cons (pg_name (i := 1) sc_is_fraction.nd rfl (by first | exact Or.inl rfl | exact Or.inr rfl)) (pgs_cons (pg_name (i := 2) sc_is_fraction.nd rfl (by first | exact Or.inl rfl | exact Or.inr rfl)) pgs_nil))))
      (pss_one (ps_ret (pe_and (pe_callS (ok_is_integer T) (hr.mono (by decide)) rfl T.g_is_integer T.k_is_integer T.b_is_integer (fun σ => passAt tk σ) (pa_cons (pv 1) pa_nil)) (pe_and (pe_callS (ok_is_integer T) (hr.mono (by decide)) rfl T.g_is_integer T.k_is_integer T.b_is_integer (fun σ => passAt tk σ) (pa_cons (pv 2) pa_nil)) (pe_and (pe_cmpR op_ge (pv 2) pe_int (nomark _)) (pe_one (pe_cmpR op_eq (pe_callBfun cr_gcd (by rfl) T.m_gcd (pa_cons (pv 1) (pa_cons (pv 2) pa_nil))) pe_int (nomark _)))))))))),
    (ds_seq (ds_if (dt_not (dt_B (de_call (n := 3) (fs := fs_is_tuple_of K) (dac_cons de_int (dac_cons de_int (dac_cons (de_var 0) dac_nil)))))) (ds_ret de_bl) ds_nil)
      (ds_seq (ds_asg (de_var 0) (dg_tup (n := 2) (dgs_cons (dg_name 1) (dgs_cons (dg_name 2) dgs_nil))))
      (ds_ret (de_and (de_call (n := 1) (fs := fs_is_integer K) (dac_cons (de_var 1) dac_nil)) (de_and (de_call (n := 1) (fs := fs_is_integer K) (dac_cons (de_var 2) dac_nil)) (de_and (de_op o_ge (de_var 2) de_int) (de_op o_eq (de_cb o_gcd (da_cons (de_var 1) (da_cons (de_var 2) da_nil))) de_int)))))))⟩
abbrev s_at_most : Stmt := topS 7
theorem sc_at_most : FnScope ["one", "other"] ["one", "other"] (defScope s_at_most) := ⟨rfl, rfl, rfl, by decide +kernel, rfl, by decide +kernel, by decide +kernel⟩
def w_at_most (K : PySem.W.Frag) : SW := (wRet (wOp gLeI (wOp gMulA (wOp gIx (wVar 0) (wC (.int 0))) (wOp gIx (wVar 1) (wC (.int 1)))) (wOp gMulA (wOp gIx (wVar 1) (wC (.int 0))) (wOp gIx (wVar 0) (wC (.int 1))))))
def fs_at_most (K : PySem.W.Frag) : FS := fun cs q _ => ∃ a b c d : Int, cs = [.dat (.tup [.int a, .int b]), .dat (.tup [.int c, .int d])] ∧ CMulA a d ∧ CMulA c b ∧ q (.bl (decide (a * d ≤ c * b))) cs
theorem pure_at_most : PureD 2 0 (fs_at_most K) (w_at_most K) := by
  rintro cs q e - ⟨a, b, c, d, rfl, h1, h2, hq⟩
  simp only [w_at_most, atI0, atI1, wAugOwn, wEnumL, wTru, wSlA, gCatA, gLtT, gLeT, wFrz, wChain3, wAttr, wMkF, wEnumT, wRevT, wDict0, wDict1, numD3, Nat.reduceAdd, atI0, atI1, atI2, atI3, atI4, ixN51, ixN52, ixN53, List.length_map, wNever, scal, V.int.injEq, V.str.injEq, V.bl.injEq, wSq, wNext, wBreak, wCont, wDrop, wRet, wRetN, wIfS, wAsg, wPar, wLstOwn, wAppend, wSetOwn, wIxOwn, wPeek, wRetOwn, wRetFr, wFor, wB, wNot, wAnd, wOr, wAndV, wOrV, wNotV, wIf, wChain, wNil, wCons, wCB, wTup, wLst, wNoPart, wPart, wSlT, wSlL, wSeq, wRng1, wRng2, wZip, wName, wNilT, wConsT, wTupT, wYes, wNeg, wVar, wC, wOp, wcNil, wcCons, wcOwn, wCall, wCallOwn, slots, cellsOf, OwnArgs, putBack, g2I, g2IC, gLen, gAbs, gGcd, gInt1, gTupleOf, gListOf, gIx, gCatT, gCat, gEq, gNe, gIsN, gNotN, scD, seqD_t, seqD_l, seqD_f, isNonD, List.nodup_cons, List.mem_cons, List.not_mem_nil, or_false, not_false_eq_true, Nat.reduceEqDiff, L3.Keeps, ends, wipeD, List.replicate, List.cons_append, List.nil_append, List.append_nil, List.getElem?_cons_zero, List.getElem?_cons_succ, List.set_cons_zero, List.set_cons_succ, List.getD_cons_zero, List.getD_cons_succ, List.length_cons, List.length_nil, List.nodup_nil, Option.some.injEq, Cell.dat.injEq, Cell.own.injEq, Cont.lst.injEq, D.bl.injEq, D.int.injEq, D.str.injEq, D.tup.injEq, D.lst.injEq, Arg.d.injEq, List.cons.injEq, exists_and_left, exists_and_right, exists_eq_left', exists_eq_left, exists_eq_right, exists_eq_right', exists_eq, exists_eq', and_true, true_and, and_assoc, and_self, exists_const, reduceCtorEq]
  exact ⟨h1, h2, hq⟩
theorem ok_at_most (T : Txt K mg) : FnOk P w K mg base (L2.CX P w) 1 T.f_at_most T.fd_at_most ["one", "other"] (spOf K 2 (fs_at_most K)) := by
  refine def_ok T.F_at_most sc_at_most (wb := w_at_most K) pure_at_most ?_
  intro cdv A outer s H E hr tk
  exact ⟨_, (pss_one (ps_ret (pe_cmpR op_le (pe_op op_mulA (pe_ix ix_seq (pv 0) pe_int (fun _ _ => rfl)) (pe_ix ix_seq (pv 1) pe_int (fun _ _ => rfl))) (pe_op op_mulA (pe_ix ix_seq (pv 1) pe_int (fun _ _ => rfl)) (pe_ix ix_seq (pv 0) pe_int (fun _ _ => rfl))) (nomark _)))),
    (ds_ret (de_op o_le (de_op o_mulA (de_op o_ix (de_var 0) de_int) (de_op o_ix (de_var 1) de_int)) (de_op o_mulA (de_op o_ix (de_var 1) de_int) (de_op o_ix (de_var 0) de_int))))⟩
abbrev s_is_threshold : Stmt := topS 19
theorem sc_is_threshold : FnScope ["thing"] ["thing"] (defScope s_is_threshold) := ⟨rfl, rfl, rfl, by decide +kernel, rfl, by decide +kernel, by decide +kernel⟩
def w_is_threshold (K : PySem.W.Frag) : SW := (wRet (wAndV (wCall 1 (fs_is_fraction K) (wcCons (wVar 0) wcNil)) (wAndV (wChain gLeI gLeI (wC (.int 1)) (wOp gIx (wVar 0) (wC (.int 0))) (wC (.int 1000000))) (wOp gLeI (wOp gIx (wVar 0) (wC (.int 1))) (wC (.int 144))))))
def isTh : D → Bool | .tup [.int t, .int b] => isFr (.tup [.int t, .int b]) && decide (1 ≤ t) && decide (t ≤ 1000000) && decide (b ≤ 144) | _ => false
def fs_is_threshold (K : PySem.W.Frag) : FS := fun cs q _ => ∃ d, cs = [.dat d] ∧ OkD K d ∧ q (.bl (isTh d)) [.dat d]
theorem fr_shape {d : D} (h : isFr d = true) : ∃ t b, d = .tup [.int t, .int b] := by
  cases d with
  | tup ds =>
    match ds with
    | [] => simp [isFr] at h
    | [x] => cases x <;> simp [isFr] at h
    | [x, y] => cases x <;> cases y <;> simp [isFr] at h; exact ⟨_, _, rfl⟩
    | x :: y :: z :: r => cases x <;> cases y <;> simp [isFr] at h
  | _ => simp [isFr] at h
theorem th_fr {d : D} (h : isFr d = false) : isTh d = false := by
  cases d with
  | tup ds =>
    match ds with
    | [] => rfl
    | [x] => cases x <;> rfl
    | [x, y] => cases x <;> cases y <;> simp_all [isTh]
    | x :: y :: z :: r => cases x <;> cases y <;> rfl
  | _ => rfl
theorem pure_is_threshold : PureD 1 0 (fs_is_threshold K) (w_is_threshold K) := by
  rintro cs q e - ⟨d, rfl, hd, hq⟩
  by_cases h : isFr d = true
  · obtain ⟨t, b, rfl⟩ := fr_shape h
    have e1 : isTh (.tup [.int t, .int b]) = (decide (1 ≤ t) && decide (t ≤ 1000000) && decide (b ≤ 144)) := by simp only [isTh, h, Bool.true_and]
    rw [e1] at hq
    simp only [w_is_threshold, fs_is_fraction, h, hd, atI0, atI1, wAugOwn, wEnumL, wTru, wSlA, gCatA, gLtT, gLeT, wFrz, wChain3, wAttr, wMkF, wEnumT, wRevT, wDict0, wDict1, numD3, Nat.reduceAdd, atI0, atI1, atI2, atI3, atI4, ixN51, ixN52, ixN53, List.length_map, wNever, scal, V.int.injEq, V.str.injEq, V.bl.injEq, wSq, wNext, wBreak, wCont, wDrop, wRet, wRetN, wIfS, wAsg, wPar, wLstOwn, wAppend, wSetOwn, wIxOwn, wPeek, wRetOwn, wRetFr, wFor, wB, wNot, wAnd, wOr, wAndV, wOrV, wNotV, wIf, wChain, wNil, wCons, wCB, wTup, wLst, wNoPart, wPart, wSlT, wSlL, wSeq, wRng1, wRng2, wZip, wName, wNilT, wConsT, wTupT, wYes, wNeg, wVar, wC, wOp, wcNil, wcCons, wcOwn, wCall, wCallOwn, slots, cellsOf, OwnArgs, putBack, g2I, g2IC, gLen, gAbs, gGcd, gInt1, gTupleOf, gListOf, gIx, gCatT, gCat, gEq, gNe, gIsN, gNotN, scD, seqD_t, seqD_l, seqD_f, isNonD, List.nodup_cons, List.mem_cons, List.not_mem_nil, or_false, not_false_eq_true, Nat.reduceEqDiff, L3.Keeps, ends, wipeD, List.replicate, List.cons_append, List.nil_append, List.append_nil, List.getElem?_cons_zero, List.getElem?_cons_succ, List.set_cons_zero, List.set_cons_succ, List.getD_cons_zero, List.getD_cons_succ, List.length_cons, List.length_nil, List.nodup_nil, Option.some.injEq, Cell.dat.injEq, Cell.own.injEq, Cont.lst.injEq, D.bl.injEq, D.int.injEq, D.str.injEq, D.tup.injEq, D.lst.injEq, Arg.d.injEq, List.cons.injEq, exists_and_left, exists_and_right, exists_eq_left', exists_eq_left, exists_eq_right, exists_eq_right', exists_eq, exists_eq', and_true, true_and, and_assoc, and_self, exists_const, reduceCtorEq]
    by_cases h1 : 1 ≤ t <;> by_cases h2 : t ≤ 1000000 <;> by_cases h3 : b ≤ 144 <;> simp [h1, h2, h3] at hq ⊢ <;> exact hq
  · have h : isFr d = false := by simpa using h
    rw [th_fr h] at hq
    simp only [w_is_threshold, fs_is_fraction, h, hd, wAugOwn, wEnumL, wTru, wSlA, gCatA, gLtT, gLeT, wFrz, wChain3, wAttr, wMkF, wEnumT, wRevT, wDict0, wDict1, numD3, Nat.reduceAdd, atI0, atI1, atI2, atI3, atI4, ixN51, ixN52, ixN53, List.length_map, wNever, scal, V.int.injEq, V.str.injEq, V.bl.injEq, wSq, wNext, wBreak, wCont, wDrop, wRet, wRetN, wIfS, wAsg, wPar, wLstOwn, wAppend, wSetOwn, wIxOwn, wPeek, wRetOwn, wRetFr, wFor, wB, wNot, wAnd, wOr, wAndV, wOrV, wNotV, wIf, wChain, wNil, wCons, wCB, wTup, wLst, wNoPart, wPart, wSlT, wSlL, wSeq, wRng1, wRng2, wZip, wName, wNilT, wConsT, wTupT, wYes, wNeg, wVar, wC, wOp, wcNil, wcCons, wcOwn, wCall, wCallOwn, slots, cellsOf, OwnArgs, putBack, g2I, g2IC, gLen, gAbs, gGcd, gInt1, gTupleOf, gListOf, gIx, gCatT, gCat, gEq, gNe, gIsN, gNotN, scD, seqD_t, seqD_l, seqD_f, isNonD, List.nodup_cons, List.mem_cons, List.not_mem_nil, or_false, not_false_eq_true, Nat.reduceEqDiff, L3.Keeps, ends, wipeD, List.replicate, List.cons_append, List.nil_append, List.append_nil, List.getElem?_cons_zero, List.getElem?_cons_succ, List.set_cons_zero, List.set_cons_succ, List.getD_cons_zero, List.getD_cons_succ, List.length_cons, List.length_nil, List.nodup_nil, Option.some.injEq, Cell.dat.injEq, Cell.own.injEq, Cont.lst.injEq, D.bl.injEq, D.int.injEq, D.str.injEq, D.tup.injEq, D.lst.injEq, Arg.d.injEq, List.cons.injEq, exists_and_left, exists_and_right, exists_eq_left', exists_eq_left, exists_eq_right, exists_eq_right', exists_eq, exists_eq', and_true, true_and, and_assoc, and_self, exists_const, reduceCtorEq]
    simp_all
theorem ok_is_threshold (T : Txt K mg) : FnOk P w K mg base (L2.CX P w) 3 T.f_is_threshold T.fd_is_threshold ["thing"] (spOf K 1 (fs_is_threshold K)) := by
  refine def_ok T.F_is_threshold sc_is_threshold (wb := w_is_threshold K) pure_is_threshold ?_
  intro cdv A outer s H E hr tk
  exact ⟨_, (pss_one (ps_ret (pe_and (pe_callS (ok_is_fraction T) (hr.mono (by decide)) rfl T.g_is_fraction T.k_is_fraction T.b_is_fraction (fun σ => passAt tk σ) (pa_cons (pv 0) pa_nil)) (pe_and (pe_chain op_le op_le pe_int (pe_ix ix_seq (pv 0) pe_int (fun _ _ => rfl)) (pe_glob (v := .int 1000000) rfl T.c_MOST_TOP ⟨_, rfl⟩)) (pe_one (pe_cmpR op_le (pe_ix ix_seq (pv 0) pe_int (fun _ _ => rfl)) (pe_glob (v := .int 144) rfl T.c_MOST_BOTTOM ⟨_, rfl⟩) (nomark _))))))),
    (ds_ret (de_and (de_call (n := 1) (fs := fs_is_fraction K) (dac_cons (de_var 0) dac_nil)) (de_and (de_chain o_le o_le de_int (de_op o_ix (de_var 0) de_int) de_int) (de_op o_le (de_op o_ix (de_var 0) de_int) de_int))))⟩
abbrev s_is_list : Stmt := topS 20
theorem sc_is_list : FnScope ["thing", "threshold", "low", "high"] ["thing"] (defScope s_is_list) := ⟨rfl, rfl, rfl, by decide +kernel, rfl, by decide +kernel, by decide +kernel⟩
def c1_is_list (K : PySem.W.Frag) : EW := wLc (wSeq (wVar 0)) (wName 1) wYes (wCall 1 (fs_is_threshold K) (wcCons (wVar 1) wcNil)) [1]
def c2_is_list (K : PySem.W.Frag) : EW := wLc (wZip (wCons (wVar 0) (wCons (wSlA (wVar 0) (wPart (wC (.int 1))) wNoPart) wNil))) (wTupT 2 (wConsT (wName 2) (wConsT (wName 3) wNilT))) wYes (wCall 2 (fs_at_most K) (wcCons (wVar 2) (wcCons (wVar 3) wcNil))) [2, 3]
def w_is_list (K : PySem.W.Frag) : SW := (wSq (wIfS (wNot (wB (wCall 3 (fs_is_tuple_of K) (wcCons (wC (.int 1)) (wcCons (wC (.int 6)) (wcCons (wVar 0) wcNil)))))) (wRet (wC (.bl false))) wNext)
  (wSq (wIfS (wNot (wB (wCB gAll (wCons (c1_is_list K) wNil)))) (wRet (wC (.bl false))) wNext)
  (wRet (wCB gAll (wCons (c2_is_list K) wNil)))))
def leP : D → Bool | .tup [.tup [.int a, .int b], .tup [.int c, .int d]] => decide (a * d ≤ c * b) | _ => false
def ascP (ds : List D) : Bool := (zipD ds (ds.drop 1)).all leP
def isLi : D → Bool | .tup ds => isTupOf 1 6 (.tup ds) && ds.all isTh && ascP ds | _ => false
def fs_is_list (K : PySem.W.Frag) : FS := fun cs q _ => ∃ d, cs = [.dat d] ∧ OkD K d ∧ q (.bl (isLi d)) [.dat d]
theorem filter_true {α : Type} {l : List α} : l.filter (fun _ => true) = l := by simp
theorem th_shape {d : D} (h : isTh d = true) : ∃ t b, d = .tup [.int t, .int b] ∧ 1 ≤ b ∧ b ≤ 144 ∧ 1 ≤ t ∧ t ≤ 1000000 := by
  cases h2 : isFr d with
  | false => rw [th_fr h2] at h; cases h
  | true =>
    obtain ⟨t, b, rfl⟩ := fr_shape h2
    simp [isTh, isFr] at h
    exact ⟨t, b, rfl, by omega, by omega, by omega, by omega⟩
theorem c1_is_list_ok {ds : List D} {c2 c3 c4 : Cell} {q : D → List Cell → Prop} {e : Xn → List Cell → Prop} (hd : OkD K (.tup ds)) (hn : ds.length ≤ 1000)
    (hq : q (.lst (ds.map fun d => .bl (isTh d))) [.dat (.tup ds), .any, c3, c4]) : c1_is_list K [.dat (.tup ds), c2, c3, c4] q e := by
  unfold c1_is_list wLc
  refine ⟨_, rfl, ds, rfl, lc_fm (fun d => .bl (isTh d)) (fun _ => true) hn (fun d hm k1 k2 h1 _ => ?_) (by rw [filter_true]; exact hq)⟩
  simp only [fs_is_threshold, okTup hd hm, wAugOwn, wEnumL, wTru, wSlA, gCatA, gLtT, gLeT, wFrz, wChain3, wAttr, wMkF, wEnumT, wRevT, wDict0, wDict1, numD3, Nat.reduceAdd, atI0, atI1, atI2, atI3, atI4, ixN51, ixN52, ixN53, List.length_map, wNever, scal, V.int.injEq, V.str.injEq, V.bl.injEq, wSq, wNext, wBreak, wCont, wDrop, wRet, wRetN, wIfS, wAsg, wPar, wLstOwn, wAppend, wSetOwn, wIxOwn, wPeek, wRetOwn, wRetFr, wFor, wB, wNot, wAnd, wOr, wAndV, wOrV, wNotV, wIf, wChain, wNil, wCons, wCB, wTup, wLst, wNoPart, wPart, wSlT, wSlL, wSeq, wRng1, wRng2, wZip, wName, wNilT, wConsT, wTupT, wYes, wNeg, wVar, wC, wOp, wcNil, wcCons, wcOwn, wCall, wCallOwn, slots, cellsOf, OwnArgs, putBack, g2I, g2IC, gLen, gAbs, gGcd, gInt1, gTupleOf, gListOf, gIx, gCatT, gCat, gEq, gNe, gIsN, gNotN, scD, seqD_t, seqD_l, seqD_f, isNonD, List.nodup_cons, List.mem_cons, List.not_mem_nil, or_false, not_false_eq_true, Nat.reduceEqDiff, L3.Keeps, ends, wipeD, List.replicate, List.cons_append, List.nil_append, List.append_nil, List.getElem?_cons_zero, List.getElem?_cons_succ, List.set_cons_zero, List.set_cons_succ, List.getD_cons_zero, List.getD_cons_succ, List.length_cons, List.length_nil, List.nodup_nil, Option.some.injEq, Cell.dat.injEq, Cell.own.injEq, Cont.lst.injEq, D.bl.injEq, D.int.injEq, D.str.injEq, D.tup.injEq, D.lst.injEq, Arg.d.injEq, List.cons.injEq, exists_and_left, exists_and_right, exists_eq_left', exists_eq_left, exists_eq_right, exists_eq_right', exists_eq, exists_eq', and_true, true_and, and_assoc, and_self, exists_const, reduceCtorEq]
  simp only [true_implies]
  refine ⟨h1 rfl _ rfl, fun z => nomatch z⟩
theorem sIx1 (n : Nat) : HT.sIx n 0 (some 1) = min 1 n := HT.sIx_nat n 0 1
theorem cutD1 {ds : List D} : cutDs ds (some 1) none = ds.drop 1 := by
  unfold cutDs
  rw [sIx1, HT.sIx_none]
  cases ds with
  | nil => rfl
  | cons x r =>
    have : min 1 (x :: r).length = 1 := by simp only [List.length_cons]; omega
    rw [this]
    exact List.take_of_length_le (by simp)
theorem cut_some {ds : List D} (h : 1 ≤ ds.length) : ¬ (HT.sIx ds.length 0 (some 1) = 0 ∧ HT.sIx ds.length ds.length none = ds.length) := fun ⟨z, _⟩ => by
  rw [sIx1] at z
  omega
theorem zip_mem {xs ys : List D} {d : D} (h : d ∈ zipD xs ys) : ∃ x y, x ∈ xs ∧ y ∈ ys ∧ d = .tup [x, y] := by
  unfold zipD at h
  obtain ⟨i, hi, e⟩ := List.getElem_of_mem h
  rw [List.getElem_zipWith] at e
  exact ⟨_, _, List.getElem_mem _, List.getElem_mem _, e.symm⟩
theorem c2_is_list_ok {ds : List D} {c2 c3 c4 : Cell} {q : D → List Cell → Prop} {e : Xn → List Cell → Prop} (h1 : 1 ≤ ds.length) (hn : ds.length ≤ 1000) (ht : ∀ d ∈ ds, isTh d = true)
    (hq : q (.lst ((zipD ds (ds.drop 1)).map fun d => .bl (leP d))) [.dat (.tup ds), c2, .any, .any]) : c2_is_list K [.dat (.tup ds), c2, c3, c4] q e := by
  unfold c2_is_list wLc
  refine ⟨_, rfl, _, rfl, 1, rfl, ds, rfl, ds, ds.drop 1, .inl (by rw [cutD1]), lc_fm (fun d => .bl (leP d)) (fun _ => true) ?_ (fun d hm k1 k2 h1 _ => ?_) (by rw [filter_true]; exact hq)⟩
  · unfold zipD
    rw [List.length_zipWith]
    omega
  · obtain ⟨x, y, hx, hy, rfl⟩ := zip_mem hm
    obtain ⟨a, b, rfl, b1, b2, b3, b4⟩ := th_shape (ht x hx)
    obtain ⟨c, d, rfl, d1, d2, d3, d4⟩ := th_shape (ht y (List.mem_of_mem_drop hy))
    simp only [fs_at_most, wAugOwn, wEnumL, wTru, wSlA, gCatA, gLtT, gLeT, wFrz, wChain3, wAttr, wMkF, wEnumT, wRevT, wDict0, wDict1, numD3, Nat.reduceAdd, atI0, atI1, atI2, atI3, atI4, ixN51, ixN52, ixN53, List.length_map, wNever, scal, V.int.injEq, V.str.injEq, V.bl.injEq, wSq, wNext, wBreak, wCont, wDrop, wRet, wRetN, wIfS, wAsg, wPar, wLstOwn, wAppend, wSetOwn, wIxOwn, wPeek, wRetOwn, wRetFr, wFor, wB, wNot, wAnd, wOr, wAndV, wOrV, wNotV, wIf, wChain, wNil, wCons, wCB, wTup, wLst, wNoPart, wPart, wSlT, wSlL, wSeq, wRng1, wRng2, wZip, wName, wNilT, wConsT, wTupT, wYes, wNeg, wVar, wC, wOp, wcNil, wcCons, wcOwn, wCall, wCallOwn, slots, cellsOf, OwnArgs, putBack, g2I, g2IC, gLen, gAbs, gGcd, gInt1, gTupleOf, gListOf, gIx, gCatT, gCat, gEq, gNe, gIsN, gNotN, scD, seqD_t, seqD_l, seqD_f, isNonD, List.nodup_cons, List.mem_cons, List.not_mem_nil, or_false, not_false_eq_true, Nat.reduceEqDiff, L3.Keeps, ends, wipeD, List.replicate, List.cons_append, List.nil_append, List.append_nil, List.getElem?_cons_zero, List.getElem?_cons_succ, List.set_cons_zero, List.set_cons_succ, List.getD_cons_zero, List.getD_cons_succ, List.length_cons, List.length_nil, List.nodup_nil, Option.some.injEq, Cell.dat.injEq, Cell.own.injEq, Cont.lst.injEq, D.bl.injEq, D.int.injEq, D.str.injEq, D.tup.injEq, D.lst.injEq, Arg.d.injEq, List.cons.injEq, exists_and_left, exists_and_right, exists_eq_left', exists_eq_left, exists_eq_right, exists_eq_right', exists_eq, exists_eq', and_true, true_and, and_assoc, and_self, exists_const, reduceCtorEq]
    simp only [true_implies]
    exact ⟨⟨cmul_r (by omega) (by omega), cmul_r (by omega) (by omega), h1 rfl _ rfl⟩, fun z => z.elim⟩
theorem all_map {α : Type} {l : List α} {f : α → Bool} : (l.map f).all id = l.all f := by simp
theorem gAll_map {α : Type} {l : List α} {f : α → Bool} {q : D → Prop} (h : q (.bl (l.all f))) : gAll [.lst (l.map fun d => .bl (f d))] q :=
  ⟨_, l.map f, .inl rfl, by simp, by rw [all_map]; exact h⟩
theorem pure_is_list : PureD 1 3 (fs_is_list K) (w_is_list K) := by
  rintro cs q e - ⟨d, rfl, hd, hq⟩
  cases h : isTupOf 1 6 d with
  | false =>
    have e1 : isLi d = false := by cases d <;> simp_all [isLi]
    rw [e1] at hq
    simp only [w_is_list, fs_is_tuple_of, h, hd, wAugOwn, wEnumL, wTru, wSlA, gCatA, gLtT, gLeT, wFrz, wChain3, wAttr, wMkF, wEnumT, wRevT, wDict0, wDict1, numD3, Nat.reduceAdd, atI0, atI1, atI2, atI3, atI4, ixN51, ixN52, ixN53, List.length_map, wNever, scal, V.int.injEq, V.str.injEq, V.bl.injEq, wSq, wNext, wBreak, wCont, wDrop, wRet, wRetN, wIfS, wAsg, wPar, wLstOwn, wAppend, wSetOwn, wIxOwn, wPeek, wRetOwn, wRetFr, wFor, wB, wNot, wAnd, wOr, wAndV, wOrV, wNotV, wIf, wChain, wNil, wCons, wCB, wTup, wLst, wNoPart, wPart, wSlT, wSlL, wSeq, wRng1, wRng2, wZip, wName, wNilT, wConsT, wTupT, wYes, wNeg, wVar, wC, wOp, wcNil, wcCons, wcOwn, wCall, wCallOwn, slots, cellsOf, OwnArgs, putBack, g2I, g2IC, gLen, gAbs, gGcd, gInt1, gTupleOf, gListOf, gIx, gCatT, gCat, gEq, gNe, gIsN, gNotN, scD, seqD_t, seqD_l, seqD_f, isNonD, List.nodup_cons, List.mem_cons, List.not_mem_nil, or_false, not_false_eq_true, Nat.reduceEqDiff, L3.Keeps, ends, wipeD, List.replicate, List.cons_append, List.nil_append, List.append_nil, List.getElem?_cons_zero, List.getElem?_cons_succ, List.set_cons_zero, List.set_cons_succ, List.getD_cons_zero, List.getD_cons_succ, List.length_cons, List.length_nil, List.nodup_nil, Option.some.injEq, Cell.dat.injEq, Cell.own.injEq, Cont.lst.injEq, D.bl.injEq, D.int.injEq, D.str.injEq, D.tup.injEq, D.lst.injEq, Arg.d.injEq, List.cons.injEq, exists_and_left, exists_and_right, exists_eq_left', exists_eq_left, exists_eq_right, exists_eq_right', exists_eq, exists_eq', and_true, true_and, and_assoc, and_self, exists_const, reduceCtorEq]
    simp_all
  | true =>
    cases d <;> simp [isTupOf] at h
    rename_i ds
    have h' : isTupOf 1 6 (.tup ds) = true := by simp [isTupOf]; omega
    simp only [w_is_list, fs_is_tuple_of, h', hd, wAugOwn, wEnumL, wTru, wSlA, gCatA, gLtT, gLeT, wFrz, wChain3, wAttr, wMkF, wEnumT, wRevT, wDict0, wDict1, numD3, Nat.reduceAdd, atI0, atI1, atI2, atI3, atI4, ixN51, ixN52, ixN53, List.length_map, wNever, scal, V.int.injEq, V.str.injEq, V.bl.injEq, wSq, wNext, wBreak, wCont, wDrop, wRet, wRetN, wIfS, wAsg, wPar, wLstOwn, wAppend, wSetOwn, wIxOwn, wPeek, wRetOwn, wRetFr, wFor, wB, wNot, wAnd, wOr, wAndV, wOrV, wNotV, wIf, wChain, wNil, wCons, wCB, wTup, wLst, wNoPart, wPart, wSlT, wSlL, wSeq, wRng1, wRng2, wZip, wName, wNilT, wConsT, wTupT, wYes, wNeg, wVar, wC, wOp, wcNil, wcCons, wcOwn, wCall, wCallOwn, slots, cellsOf, OwnArgs, putBack, g2I, g2IC, gLen, gAbs, gGcd, gInt1, gTupleOf, gListOf, gIx, gCatT, gCat, gEq, gNe, gIsN, gNotN, scD, seqD_t, seqD_l, seqD_f, isNonD, List.nodup_cons, List.mem_cons, List.not_mem_nil, or_false, not_false_eq_true, Nat.reduceEqDiff, L3.Keeps, ends, wipeD, List.replicate, List.cons_append, List.nil_append, List.append_nil, List.getElem?_cons_zero, List.getElem?_cons_succ, List.set_cons_zero, List.set_cons_succ, List.getD_cons_zero, List.getD_cons_succ, List.length_cons, List.length_nil, List.nodup_nil, Option.some.injEq, Cell.dat.injEq, Cell.own.injEq, Cont.lst.injEq, D.bl.injEq, D.int.injEq, D.str.injEq, D.tup.injEq, D.lst.injEq, Arg.d.injEq, List.cons.injEq, exists_and_left, exists_and_right, exists_eq_left', exists_eq_left, exists_eq_right, exists_eq_right', exists_eq, exists_eq', and_true, true_and, and_assoc, and_self, exists_const, reduceCtorEq]
    simp only [Bool.not_true, Bool.false_eq_true, false_implies, true_implies, true_and]
    refine c1_is_list_ok hd (by omega) (gAll_map ?_)
    cases ht : ds.all isTh with
    | false =>
      have e1 : isLi (.tup ds) = false := by simp only [isLi, h', ht]; rfl
      rw [e1] at hq
      simp only [wAugOwn, wEnumL, wTru, wSlA, gCatA, gLtT, gLeT, wFrz, wChain3, wAttr, wMkF, wEnumT, wRevT, wDict0, wDict1, numD3, Nat.reduceAdd, atI0, atI1, atI2, atI3, atI4, ixN51, ixN52, ixN53, List.length_map, wNever, scal, V.int.injEq, V.str.injEq, V.bl.injEq, wSq, wNext, wBreak, wCont, wDrop, wRet, wRetN, wIfS, wAsg, wPar, wLstOwn, wAppend, wSetOwn, wIxOwn, wPeek, wRetOwn, wRetFr, wFor, wB, wNot, wAnd, wOr, wAndV, wOrV, wNotV, wIf, wChain, wNil, wCons, wCB, wTup, wLst, wNoPart, wPart, wSlT, wSlL, wSeq, wRng1, wRng2, wZip, wName, wNilT, wConsT, wTupT, wYes, wNeg, wVar, wC, wOp, wcNil, wcCons, wcOwn, wCall, wCallOwn, slots, cellsOf, OwnArgs, putBack, g2I, g2IC, gLen, gAbs, gGcd, gInt1, gTupleOf, gListOf, gIx, gCatT, gCat, gEq, gNe, gIsN, gNotN, scD, seqD_t, seqD_l, seqD_f, isNonD, List.nodup_cons, List.mem_cons, List.not_mem_nil, or_false, not_false_eq_true, Nat.reduceEqDiff, L3.Keeps, ends, wipeD, List.replicate, List.cons_append, List.nil_append, List.append_nil, List.getElem?_cons_zero, List.getElem?_cons_succ, List.set_cons_zero, List.set_cons_succ, List.getD_cons_zero, List.getD_cons_succ, List.length_cons, List.length_nil, List.nodup_nil, Option.some.injEq, Cell.dat.injEq, Cell.own.injEq, Cont.lst.injEq, D.bl.injEq, D.int.injEq, D.str.injEq, D.tup.injEq, D.lst.injEq, Arg.d.injEq, List.cons.injEq, exists_and_left, exists_and_right, exists_eq_left', exists_eq_left, exists_eq_right, exists_eq_right', exists_eq, exists_eq', and_true, true_and, and_assoc, and_self, exists_const, reduceCtorEq]
      simp_all
    | true =>
      have e1 : isLi (.tup ds) = ascP ds := by simp only [isLi, h', ht]; rfl
      rw [e1] at hq
      simp only [wAugOwn, wEnumL, wTru, wSlA, gCatA, gLtT, gLeT, wFrz, wChain3, wAttr, wMkF, wEnumT, wRevT, wDict0, wDict1, numD3, Nat.reduceAdd, atI0, atI1, atI2, atI3, atI4, ixN51, ixN52, ixN53, List.length_map, wNever, scal, V.int.injEq, V.str.injEq, V.bl.injEq, wSq, wNext, wBreak, wCont, wDrop, wRet, wRetN, wIfS, wAsg, wPar, wLstOwn, wAppend, wSetOwn, wIxOwn, wPeek, wRetOwn, wRetFr, wFor, wB, wNot, wAnd, wOr, wAndV, wOrV, wNotV, wIf, wChain, wNil, wCons, wCB, wTup, wLst, wNoPart, wPart, wSlT, wSlL, wSeq, wRng1, wRng2, wZip, wName, wNilT, wConsT, wTupT, wYes, wNeg, wVar, wC, wOp, wcNil, wcCons, wcOwn, wCall, wCallOwn, slots, cellsOf, OwnArgs, putBack, g2I, g2IC, gLen, gAbs, gGcd, gInt1, gTupleOf, gListOf, gIx, gCatT, gCat, gEq, gNe, gIsN, gNotN, scD, seqD_t, seqD_l, seqD_f, isNonD, List.nodup_cons, List.mem_cons, List.not_mem_nil, or_false, not_false_eq_true, Nat.reduceEqDiff, L3.Keeps, ends, wipeD, List.replicate, List.cons_append, List.nil_append, List.append_nil, List.getElem?_cons_zero, List.getElem?_cons_succ, List.set_cons_zero, List.set_cons_succ, List.getD_cons_zero, List.getD_cons_succ, List.length_cons, List.length_nil, List.nodup_nil, Option.some.injEq, Cell.dat.injEq, Cell.own.injEq, Cont.lst.injEq, D.bl.injEq, D.int.injEq, D.str.injEq, D.tup.injEq, D.lst.injEq, Arg.d.injEq, List.cons.injEq, exists_and_left, exists_and_right, exists_eq_left', exists_eq_left, exists_eq_right, exists_eq_right', exists_eq, exists_eq', and_true, true_and, and_assoc, and_self, exists_const, reduceCtorEq]
      simp only [Bool.not_true, Bool.false_eq_true, false_implies, true_implies, true_and]
      refine c2_is_list_ok (by omega) (by omega) (by simpa using ht) (gAll_map ?_)
      simp only [wAugOwn, wEnumL, wTru, wSlA, gCatA, gLtT, gLeT, wFrz, wChain3, wAttr, wMkF, wEnumT, wRevT, wDict0, wDict1, numD3, Nat.reduceAdd, atI0, atI1, atI2, atI3, atI4, ixN51, ixN52, ixN53, List.length_map, wNever, scal, V.int.injEq, V.str.injEq, V.bl.injEq, wSq, wNext, wBreak, wCont, wDrop, wRet, wRetN, wIfS, wAsg, wPar, wLstOwn, wAppend, wSetOwn, wIxOwn, wPeek, wRetOwn, wRetFr, wFor, wB, wNot, wAnd, wOr, wAndV, wOrV, wNotV, wIf, wChain, wNil, wCons, wCB, wTup, wLst, wNoPart, wPart, wSlT, wSlL, wSeq, wRng1, wRng2, wZip, wName, wNilT, wConsT, wTupT, wYes, wNeg, wVar, wC, wOp, wcNil, wcCons, wcOwn, wCall, wCallOwn, slots, cellsOf, OwnArgs, putBack, g2I, g2IC, gLen, gAbs, gGcd, gInt1, gTupleOf, gListOf, gIx, gCatT, gCat, gEq, gNe, gIsN, gNotN, scD, seqD_t, seqD_l, seqD_f, isNonD, List.nodup_cons, List.mem_cons, List.not_mem_nil, or_false, not_false_eq_true, Nat.reduceEqDiff, L3.Keeps, ends, wipeD, List.replicate, List.cons_append, List.nil_append, List.append_nil, List.getElem?_cons_zero, List.getElem?_cons_succ, List.set_cons_zero, List.set_cons_succ, List.getD_cons_zero, List.getD_cons_succ, List.length_cons, List.length_nil, List.nodup_nil, Option.some.injEq, Cell.dat.injEq, Cell.own.injEq, Cont.lst.injEq, D.bl.injEq, D.int.injEq, D.str.injEq, D.tup.injEq, D.lst.injEq, Arg.d.injEq, List.cons.injEq, exists_and_left, exists_and_right, exists_eq_left', exists_eq_left, exists_eq_right, exists_eq_right', exists_eq, exists_eq', and_true, true_and, and_assoc, and_self, exists_const, reduceCtorEq]
      exact hq
theorem li_shape {d : D} (h : isLi d = true) : ∃ ds, d = .tup ds ∧ 1 ≤ ds.length ∧ ds.length ≤ 6 ∧ ∀ x ∈ ds, isTh x = true := by
  cases d <;> simp [isLi] at h
  obtain ⟨⟨h1, h2⟩, h3⟩ := h
  simp [isTupOf] at h1
  exact ⟨_, rfl, by omega, by omega, by simpa using h2⟩
theorem ok_is_list (T : Txt K mg) : FnOk P w K mg base (L2.CX P w) 4 T.f_is_list T.fd_is_list ["thing"] (spOf K 1 (fs_is_list K)) := by
  refine def_ok T.F_is_list sc_is_list (wb := w_is_list K) pure_is_list ?_
  intro cdv A outer s H E hr tk
  exact ⟨_, (pss_cons (ps_if (pt_not (pt_val (pe_callS (ok_is_tuple_of T) (hr.mono (by decide)) rfl T.g_is_tuple_of T.k_is_tuple_of T.b_is_tuple_of (fun σ => passAt tk σ) (pa_cons pe_int (pa_cons (pe_glob (v := .int 6) rfl T.c_MOST_THRESHOLDS ⟨_, rfl⟩) (pa_cons (pv 0) pa_nil))))))
        (pss_one (ps_ret pe_bl))
        pss_nil)
      (pss_cons (ps_if (pt_not (pt_val (pe_callB (cr_all (by rfl)) (by rfl) T.z_all (by decide +kernel) (pa_cons (pe_lc (own := [("threshold", 1)]) (g := (gName 1)) (tt := tYes) (te := (tCallS (spOf K 1 (fs_is_threshold K)) (L2.WE W0) (tCons (tVar 1) tNil))) rfl sc_is_list.nd (pi_seq (pv 0)) (blkOk_by (N := ["thing", "threshold", "low", "high"]) (sc := defScope s_is_list) (by decide +kernel)) (fun _ _ _ _ _ => (pg_name (i := 1) sc_is_list.nd rfl (by first | exact Or.inl rfl | exact Or.inr rfl))) (fun _ _ _ _ _ => pts_nil) (fun _ _ _ _ _ => (pe_callS (ok_is_threshold T) (hr.mono (by decide)) rfl T.g_is_threshold T.k_is_threshold T.b_is_threshold (fun σ => passAt L2.takes0 σ) (pa_cons (pv 1) pa_nil)))) pa_nil))))
        (pss_one (ps_ret pe_bl))
        pss_nil)
      (pss_one (ps_ret (pe_callB (cr_all (by rfl)) (by rfl) T.z_all (by decide +kernel) (pa_cons (pe_lc (own := [("low", 2), ("high", 3)]) (g := (gTup K 2 (gCons (gName 2) (gCons (gName 3) gNil)))) (tt := tYes) (te := (tCallS (spOf K 2 (fs_at_most K)) (L2.WE W0) (tCons (tVar 2) (tCons (tVar 3) tNil)))) rfl sc_is_list.nd (RZ.pi_zipA (by rfl) T.z_zip (pa_cons (pv 0) (pa_cons (pe_slice sl_tupA (pv 0) (po_some pe_int) po_none) pa_nil))) (blkOk_by (N := ["thing", "threshold", "low", "high"]) (sc := defScope s_is_list) (by decide +kernel)) (fun _ _ _ _ _ => (pg_tup (by rfl) (pgs_cons (pg_name (i := 2) sc_is_list.nd rfl (by first | exact Or.inl rfl | exact Or.inr rfl)) (pgs_cons (pg_name (i := 3) sc_is_list.nd rfl (by first | exact Or.inl rfl | exact Or.inr rfl)) pgs_nil)))) (fun _ _ _ _ _ => pts_nil) (fun _ _ _ _ _ => (pe_callS (ok_at_most T) (hr.mono (by decide)) rfl T.g_at_most T.k_at_most T.b_at_most (fun σ => passAt L2.takes0 σ) (pa_cons (pv 2) (pa_cons (pv 3) pa_nil))))) pa_nil)))))),
    (ds_seq (ds_if (dt_not (dt_B (de_call (n := 3) (fs := fs_is_tuple_of K) (dac_cons de_int (dac_cons de_int (dac_cons (de_var 0) dac_nil)))))) (ds_ret de_bl) ds_nil)
      (ds_seq (ds_if (dt_not (dt_B (de_cb o_all (da_cons (de_lc (vs := [1]) (wI := (wSeq (wVar 0))) (wg := (wName 1)) (wt := wYes) (we := (wCall 1 (fs_is_threshold K) (wcCons (wVar 1) wcNil))) (di_seq (de_var 0)) (dg_name 1) dt_yes (de_call (n := 1) (fs := fs_is_threshold K) (dac_cons (de_var 1) dac_nil)) (by decide)) da_nil)))) (ds_ret de_bl) ds_nil)
      (ds_ret (de_cb o_all (da_cons (de_lc (vs := [2, 3]) (wI := (wZip (wCons (wVar 0) (wCons (wSlA (wVar 0) (wPart (wC (.int 1))) wNoPart) wNil)))) (wg := (wTupT 2 (wConsT (wName 2) (wConsT (wName 3) wNilT)))) (wt := wYes) (we := (wCall 2 (fs_at_most K) (wcCons (wVar 2) (wcCons (wVar 3) wcNil)))) (di_zip (da_cons (de_var 0) (da_cons (de_slA (de_var 0) (do_part de_int) do_no) da_nil))) (dg_tup (n := 2) (dgs_cons (dg_name 2) (dgs_cons (dg_name 3) dgs_nil))) dt_yes (de_call (n := 2) (fs := fs_at_most K) (dac_cons (de_var 2) (dac_cons (de_var 3) dac_nil))) (by decide)) da_nil)))))⟩
abbrev s_ascends : Stmt := topS 6
theorem sc_ascends : FnScope ["things", "low", "high"] ["things"] (defScope s_ascends) := ⟨rfl, rfl, rfl, by decide +kernel, rfl, by decide +kernel, by decide +kernel⟩
def c1_ascends (K : PySem.W.Frag) : EW := wLc (wZip (wCons (wVar 0) (wCons (wSlA (wVar 0) (wPart (wC (.int 1))) wNoPart) wNil))) (wTupT 2 (wConsT (wName 1) (wConsT (wName 2) wNilT))) wYes (wOp gLtT (wVar 1) (wVar 2)) [1, 2]
def w_ascends (K : PySem.W.Frag) : SW := (wRet (wCB gAll (wCons (c1_ascends K) wNil)))
def ltP : D → Bool | .tup [.tup [.int a, .int b], .tup [.int c, .int d]] => HT.lexLt [a, b] [c, d] | _ => false
def ascJ (ds : List D) : Bool := (zipD ds (ds.drop 1)).all ltP
def PairD (d : D) : Prop := ∃ a b : Int, d = .tup [.int a, .int b]
def fs_ascends (K : PySem.W.Frag) : FS := fun cs q _ => ∃ ds : List D, cs = [.dat (.tup ds)] ∧ ds.length ≤ 900 ∧ (∀ d ∈ ds, PairD d) ∧ q (.bl (ascJ ds)) cs
theorem c1_ascends_ok {ds : List D} {c1 c2 : Cell} {q : D → List Cell → Prop} {e : Xn → List Cell → Prop} (hn : ds.length ≤ 900) (hp : ∀ d ∈ ds, PairD d)
    (hq : q (.lst ((zipD ds (ds.drop 1)).map fun d => .bl (ltP d))) [.dat (.tup ds), .any, .any]) : c1_ascends K [.dat (.tup ds), c1, c2] q e := by
  unfold c1_ascends wLc
  refine ⟨_, rfl, _, rfl, 1, rfl, ds, rfl, ds, ds.drop 1, .inl (by rw [cutD1]), lc_fm (fun d => .bl (ltP d)) (fun _ => true) ?_ (fun d hm k1 k2 h1 _ => ?_) (by rw [filter_true]; exact hq)⟩
  · unfold zipD
    rw [List.length_zipWith]
    omega
  · obtain ⟨x, y, hx, hy, rfl⟩ := zip_mem hm
    obtain ⟨a, b, rfl⟩ := hp x hx
    obtain ⟨c, d, rfl⟩ := hp y (List.mem_of_mem_drop hy)
    simp only [wAugOwn, wEnumL, wTru, wSlA, gCatA, gLtT, gLeT, wFrz, wChain3, wAttr, wMkF, wEnumT, wRevT, wDict0, wDict1, numD3, Nat.reduceAdd, atI0, atI1, atI2, atI3, atI4, ixN51, ixN52, ixN53, List.length_map, wNever, scal, V.int.injEq, V.str.injEq, V.bl.injEq, wSq, wNext, wBreak, wCont, wDrop, wRet, wRetN, wIfS, wAsg, wPar, wLstOwn, wAppend, wSetOwn, wIxOwn, wPeek, wRetOwn, wRetFr, wFor, wB, wNot, wAnd, wOr, wAndV, wOrV, wNotV, wIf, wChain, wNil, wCons, wCB, wTup, wLst, wNoPart, wPart, wSlT, wSlL, wSeq, wRng1, wRng2, wZip, wName, wNilT, wConsT, wTupT, wYes, wNeg, wVar, wC, wOp, wcNil, wcCons, wcOwn, wCall, wCallOwn, slots, cellsOf, OwnArgs, putBack, g2I, g2IC, gLen, gAbs, gGcd, gInt1, gTupleOf, gListOf, gIx, gCatT, gCat, gEq, gNe, gIsN, gNotN, scD, seqD_t, seqD_l, seqD_f, isNonD, List.nodup_cons, List.mem_cons, List.not_mem_nil, or_false, not_false_eq_true, Nat.reduceEqDiff, L3.Keeps, ends, wipeD, List.replicate, List.cons_append, List.nil_append, List.append_nil, List.getElem?_cons_zero, List.getElem?_cons_succ, List.set_cons_zero, List.set_cons_succ, List.getD_cons_zero, List.getD_cons_succ, List.length_cons, List.length_nil, List.nodup_nil, Option.some.injEq, Cell.dat.injEq, Cell.own.injEq, Cont.lst.injEq, D.bl.injEq, D.int.injEq, D.str.injEq, D.tup.injEq, D.lst.injEq, Arg.d.injEq, List.cons.injEq, exists_and_left, exists_and_right, exists_eq_left', exists_eq_left, exists_eq_right, exists_eq_right', exists_eq, exists_eq', and_true, true_and, and_assoc, and_self, exists_const, reduceCtorEq]
    simp only [true_implies]
    exact ⟨⟨[a, b], rfl, [c, d], rfl, h1 rfl _ rfl⟩, fun z => z.elim⟩
theorem pure_ascends : PureD 1 2 (fs_ascends K) (w_ascends K) := by
  rintro cs q e - ⟨ds, rfl, hn, hp, hq⟩
  simp only [w_ascends, wAugOwn, wEnumL, wTru, wSlA, gCatA, gLtT, gLeT, wFrz, wChain3, wAttr, wMkF, wEnumT, wRevT, wDict0, wDict1, numD3, Nat.reduceAdd, atI0, atI1, atI2, atI3, atI4, ixN51, ixN52, ixN53, List.length_map, wNever, scal, V.int.injEq, V.str.injEq, V.bl.injEq, wSq, wNext, wBreak, wCont, wDrop, wRet, wRetN, wIfS, wAsg, wPar, wLstOwn, wAppend, wSetOwn, wIxOwn, wPeek, wRetOwn, wRetFr, wFor, wB, wNot, wAnd, wOr, wAndV, wOrV, wNotV, wIf, wChain, wNil, wCons, wCB, wTup, wLst, wNoPart, wPart, wSlT, wSlL, wSeq, wRng1, wRng2, wZip, wName, wNilT, wConsT, wTupT, wYes, wNeg, wVar, wC, wOp, wcNil, wcCons, wcOwn, wCall, wCallOwn, slots, cellsOf, OwnArgs, putBack, g2I, g2IC, gLen, gAbs, gGcd, gInt1, gTupleOf, gListOf, gIx, gCatT, gCat, gEq, gNe, gIsN, gNotN, scD, seqD_t, seqD_l, seqD_f, isNonD, List.nodup_cons, List.mem_cons, List.not_mem_nil, or_false, not_false_eq_true, Nat.reduceEqDiff, L3.Keeps, ends, wipeD, List.replicate, List.cons_append, List.nil_append, List.append_nil, List.getElem?_cons_zero, List.getElem?_cons_succ, List.set_cons_zero, List.set_cons_succ, List.getD_cons_zero, List.getD_cons_succ, List.length_cons, List.length_nil, List.nodup_nil, Option.some.injEq, Cell.dat.injEq, Cell.own.injEq, Cont.lst.injEq, D.bl.injEq, D.int.injEq, D.str.injEq, D.tup.injEq, D.lst.injEq, Arg.d.injEq, List.cons.injEq, exists_and_left, exists_and_right, exists_eq_left', exists_eq_left, exists_eq_right, exists_eq_right', exists_eq, exists_eq', and_true, true_and, and_assoc, and_self, exists_const, reduceCtorEq]
  refine c1_ascends_ok hn hp (gAll_map ?_)
  simp only [wAugOwn, wEnumL, wTru, wSlA, gCatA, gLtT, gLeT, wFrz, wChain3, wAttr, wMkF, wEnumT, wRevT, wDict0, wDict1, numD3, Nat.reduceAdd, atI0, atI1, atI2, atI3, atI4, ixN51, ixN52, ixN53, List.length_map, wNever, scal, V.int.injEq, V.str.injEq, V.bl.injEq, wSq, wNext, wBreak, wCont, wDrop, wRet, wRetN, wIfS, wAsg, wPar, wLstOwn, wAppend, wSetOwn, wIxOwn, wPeek, wRetOwn, wRetFr, wFor, wB, wNot, wAnd, wOr, wAndV, wOrV, wNotV, wIf, wChain, wNil, wCons, wCB, wTup, wLst, wNoPart, wPart, wSlT, wSlL, wSeq, wRng1, wRng2, wZip, wName, wNilT, wConsT, wTupT, wYes, wNeg, wVar, wC, wOp, wcNil, wcCons, wcOwn, wCall, wCallOwn, slots, cellsOf, OwnArgs, putBack, g2I, g2IC, gLen, gAbs, gGcd, gInt1, gTupleOf, gListOf, gIx, gCatT, gCat, gEq, gNe, gIsN, gNotN, scD, seqD_t, seqD_l, seqD_f, isNonD, List.nodup_cons, List.mem_cons, List.not_mem_nil, or_false, not_false_eq_true, Nat.reduceEqDiff, L3.Keeps, ends, wipeD, List.replicate, List.cons_append, List.nil_append, List.append_nil, List.getElem?_cons_zero, List.getElem?_cons_succ, List.set_cons_zero, List.set_cons_succ, List.getD_cons_zero, List.getD_cons_succ, List.length_cons, List.length_nil, List.nodup_nil, Option.some.injEq, Cell.dat.injEq, Cell.own.injEq, Cont.lst.injEq, D.bl.injEq, D.int.injEq, D.str.injEq, D.tup.injEq, D.lst.injEq, Arg.d.injEq, List.cons.injEq, exists_and_left, exists_and_right, exists_eq_left', exists_eq_left, exists_eq_right, exists_eq_right', exists_eq, exists_eq', and_true, true_and, and_assoc, and_self, exists_const, reduceCtorEq]
  exact hq
theorem ok_ascends (T : Txt K mg) : FnOk P w K mg base (L2.CX P w) 1 T.f_ascends T.fd_ascends ["things"] (spOf K 1 (fs_ascends K)) := by
  refine def_ok T.F_ascends sc_ascends (wb := w_ascends K) pure_ascends ?_
  intro cdv A outer s H E hr tk
  exact ⟨_, (pss_one (ps_ret (pe_callB (cr_all (by rfl)) (by rfl) T.z_all (by decide +kernel) (pa_cons (pe_lc (own := [("low", 1), ("high", 2)]) (g := (gTup K 2 (gCons (gName 1) (gCons (gName 2) gNil)))) (tt := tYes) (te := (tOp (rLtT K) (tVar 1) (tVar 2))) rfl sc_ascends.nd (RZ.pi_zipA (by rfl) T.z_zip (pa_cons (pv 0) (pa_cons (pe_slice sl_tupA (pv 0) (po_some pe_int) po_none) pa_nil))) (blkOk_by (N := ["things", "low", "high"]) (sc := defScope s_ascends) (by decide +kernel)) (fun _ _ _ _ _ => (pg_tup (by rfl) (pgs_cons (pg_name (i := 1) sc_ascends.nd rfl (by first | exact Or.inl rfl | exact Or.inr rfl)) (pgs_cons (pg_name (i := 2) sc_ascends.nd rfl (by first | exact Or.inl rfl | exact Or.inr rfl)) pgs_nil)))) (fun _ _ _ _ _ => pts_nil) (fun _ _ _ _ _ => (pe_cmpR (op_ltT (Nat.lt_of_le_of_lt (Nat.le_add_right _ 64) hr.units)) (pv 1) (pv 2) (nomark _)))) pa_nil)))),
    (ds_ret (de_cb o_all (da_cons (de_lc (vs := [1, 2]) (wI := (wZip (wCons (wVar 0) (wCons (wSlA (wVar 0) (wPart (wC (.int 1))) wNoPart) wNil)))) (wg := (wTupT 2 (wConsT (wName 1) (wConsT (wName 2) wNilT)))) (wt := wYes) (we := (wOp gLtT (wVar 1) (wVar 2))) (di_zip (da_cons (de_var 0) (da_cons (de_slA (de_var 0) (do_part de_int) do_no) da_nil))) (dg_tup (n := 2) (dgs_cons (dg_name 1) (dgs_cons (dg_name 2) dgs_nil))) dt_yes (de_op o_ltT (de_var 1) (de_var 2)) (by decide)) da_nil)))⟩
abbrev s_is_width : Stmt := topS 21
theorem sc_is_width : FnScope ["thing"] ["thing"] (defScope s_is_width) := ⟨rfl, rfl, rfl, by decide +kernel, rfl, by decide +kernel, by decide +kernel⟩
def w_is_width (K : PySem.W.Frag) : SW := (wRet (wCall 3 (fs_is_between K) (wcCons (wC (.int 0)) (wcCons (wC (.int 12)) (wcCons (wVar 0) wcNil)))))
def fs_is_width (K : PySem.W.Frag) : FS := fun cs q _ => ∃ d, cs = [.dat d] ∧ OkD K d ∧ q (.bl (isBetw 0 12 d)) cs
theorem pure_is_width : PureD 1 0 (fs_is_width K) (w_is_width K) := by
  rintro cs q e - ⟨d, rfl, hd, hq⟩
  simp only [w_is_width, fs_is_between, hd, wAugOwn, wEnumL, wTru, wSlA, gCatA, gLtT, gLeT, wFrz, wChain3, wAttr, wMkF, wEnumT, wRevT, wDict0, wDict1, numD3, Nat.reduceAdd, atI0, atI1, atI2, atI3, atI4, ixN51, ixN52, ixN53, List.length_map, wNever, scal, V.int.injEq, V.str.injEq, V.bl.injEq, wSq, wNext, wBreak, wCont, wDrop, wRet, wRetN, wIfS, wAsg, wPar, wLstOwn, wAppend, wSetOwn, wIxOwn, wPeek, wRetOwn, wRetFr, wFor, wB, wNot, wAnd, wOr, wAndV, wOrV, wNotV, wIf, wChain, wNil, wCons, wCB, wTup, wLst, wNoPart, wPart, wSlT, wSlL, wSeq, wRng1, wRng2, wZip, wName, wNilT, wConsT, wTupT, wYes, wNeg, wVar, wC, wOp, wcNil, wcCons, wcOwn, wCall, wCallOwn, slots, cellsOf, OwnArgs, putBack, g2I, g2IC, gLen, gAbs, gGcd, gInt1, gTupleOf, gListOf, gIx, gCatT, gCat, gEq, gNe, gIsN, gNotN, scD, seqD_t, seqD_l, seqD_f, isNonD, List.nodup_cons, List.mem_cons, List.not_mem_nil, or_false, not_false_eq_true, Nat.reduceEqDiff, L3.Keeps, ends, wipeD, List.replicate, List.cons_append, List.nil_append, List.append_nil, List.getElem?_cons_zero, List.getElem?_cons_succ, List.set_cons_zero, List.set_cons_succ, List.getD_cons_zero, List.getD_cons_succ, List.length_cons, List.length_nil, List.nodup_nil, Option.some.injEq, Cell.dat.injEq, Cell.own.injEq, Cont.lst.injEq, D.bl.injEq, D.int.injEq, D.str.injEq, D.tup.injEq, D.lst.injEq, Arg.d.injEq, List.cons.injEq, exists_and_left, exists_and_right, exists_eq_left', exists_eq_left, exists_eq_right, exists_eq_right', exists_eq, exists_eq', and_true, true_and, and_assoc, and_self, exists_const, reduceCtorEq]
  exact hq
theorem ok_is_width (T : Txt K mg) : FnOk P w K mg base (L2.CX P w) 3 T.f_is_width T.fd_is_width ["thing"] (spOf K 1 (fs_is_width K)) := by
  refine def_ok T.F_is_width sc_is_width (wb := w_is_width K) pure_is_width ?_
  intro cdv A outer s H E hr tk
  exact ⟨_, (pss_one (ps_ret (pe_callS (ok_is_between T) (hr.mono (by decide)) rfl T.g_is_between T.k_is_between T.b_is_between (fun σ => passAt tk σ) (pa_cons pe_int (pa_cons (pe_glob (v := .int 12) rfl T.c_MOST_WIDTH ⟨_, rfl⟩) (pa_cons (pv 0) pa_nil)))))),
    (ds_ret (de_call (n := 3) (fs := fs_is_between K) (dac_cons de_int (dac_cons de_int (dac_cons (de_var 0) dac_nil)))))⟩
abbrev s_is_widths : Stmt := topS 25
theorem sc_is_widths : FnScope ["thing", "width"] ["thing"] (defScope s_is_widths) := ⟨rfl, rfl, rfl, by decide +kernel, rfl, by decide +kernel, by decide +kernel⟩
def c1_is_widths (K : PySem.W.Frag) : EW := wLc (wSeq (wVar 0)) (wName 1) wYes (wCall 1 (fs_is_width K) (wcCons (wVar 1) wcNil)) [1]
def w_is_widths (K : PySem.W.Frag) : SW := (wRet (wAndV (wCall 3 (fs_is_tuple_of K) (wcCons (wC (.int 1)) (wcCons (wC (.int 12)) (wcCons (wVar 0) wcNil)))) (wCB gAll (wCons (c1_is_widths K) wNil))))
def isWs : D → Bool | .tup ds => isTupOf 1 12 (.tup ds) && ds.all (isBetw 0 12) | _ => false
def fs_is_widths (K : PySem.W.Frag) : FS := fun cs q _ => ∃ d, cs = [.dat d] ∧ OkD K d ∧ q (.bl (isWs d)) cs
theorem c1_is_widths_ok {ds : List D} {c2 : Cell} {q : D → List Cell → Prop} {e : Xn → List Cell → Prop} (hd : OkD K (.tup ds)) (hn : ds.length ≤ 1000)
    (hq : q (.lst (ds.map fun d => .bl (isBetw 0 12 d))) [.dat (.tup ds), .any]) : c1_is_widths K [.dat (.tup ds), c2] q e := by
  unfold c1_is_widths wLc
  refine ⟨_, rfl, ds, rfl, lc_fm (fun d => .bl (isBetw 0 12 d)) (fun _ => true) hn (fun d hm k1 k2 h1 _ => ?_) (by rw [filter_true]; exact hq)⟩
  simp only [fs_is_width, okTup hd hm, wAugOwn, wEnumL, wTru, wSlA, gCatA, gLtT, gLeT, wFrz, wChain3, wAttr, wMkF, wEnumT, wRevT, wDict0, wDict1, numD3, Nat.reduceAdd, atI0, atI1, atI2, atI3, atI4, ixN51, ixN52, ixN53, List.length_map, wNever, scal, V.int.injEq, V.str.injEq, V.bl.injEq, wSq, wNext, wBreak, wCont, wDrop, wRet, wRetN, wIfS, wAsg, wPar, wLstOwn, wAppend, wSetOwn, wIxOwn, wPeek, wRetOwn, wRetFr, wFor, wB, wNot, wAnd, wOr, wAndV, wOrV, wNotV, wIf, wChain, wNil, wCons, wCB, wTup, wLst, wNoPart, wPart, wSlT, wSlL, wSeq, wRng1, wRng2, wZip, wName, wNilT, wConsT, wTupT, wYes, wNeg, wVar, wC, wOp, wcNil, wcCons, wcOwn, wCall, wCallOwn, slots, cellsOf, OwnArgs, putBack, g2I, g2IC, gLen, gAbs, gGcd, gInt1, gTupleOf, gListOf, gIx, gCatT, gCat, gEq, gNe, gIsN, gNotN, scD, seqD_t, seqD_l, seqD_f, isNonD, List.nodup_cons, List.mem_cons, List.not_mem_nil, or_false, not_false_eq_true, Nat.reduceEqDiff, L3.Keeps, ends, wipeD, List.replicate, List.cons_append, List.nil_append, List.append_nil, List.getElem?_cons_zero, List.getElem?_cons_succ, List.set_cons_zero, List.set_cons_succ, List.getD_cons_zero, List.getD_cons_succ, List.length_cons, List.length_nil, List.nodup_nil, Option.some.injEq, Cell.dat.injEq, Cell.own.injEq, Cont.lst.injEq, D.bl.injEq, D.int.injEq, D.str.injEq, D.tup.injEq, D.lst.injEq, Arg.d.injEq, List.cons.injEq, exists_and_left, exists_and_right, exists_eq_left', exists_eq_left, exists_eq_right, exists_eq_right', exists_eq, exists_eq', and_true, true_and, and_assoc, and_self, exists_const, reduceCtorEq]
  simp only [true_implies]
  refine ⟨h1 rfl _ rfl, fun z => nomatch z⟩
theorem pure_is_widths : PureD 1 1 (fs_is_widths K) (w_is_widths K) := by
  rintro cs q e - ⟨d, rfl, hd, hq⟩
  cases h : isTupOf 1 12 d with
  | false =>
    have e1 : isWs d = false := by cases d <;> simp_all [isWs]
    rw [e1] at hq
    simp only [w_is_widths, fs_is_tuple_of, h, hd, wAugOwn, wEnumL, wTru, wSlA, gCatA, gLtT, gLeT, wFrz, wChain3, wAttr, wMkF, wEnumT, wRevT, wDict0, wDict1, numD3, Nat.reduceAdd, atI0, atI1, atI2, atI3, atI4, ixN51, ixN52, ixN53, List.length_map, wNever, scal, V.int.injEq, V.str.injEq, V.bl.injEq, wSq, wNext, wBreak, wCont, wDrop, wRet, wRetN, wIfS, wAsg, wPar, wLstOwn, wAppend, wSetOwn, wIxOwn, wPeek, wRetOwn, wRetFr, wFor, wB, wNot, wAnd, wOr, wAndV, wOrV, wNotV, wIf, wChain, wNil, wCons, wCB, wTup, wLst, wNoPart, wPart, wSlT, wSlL, wSeq, wRng1, wRng2, wZip, wName, wNilT, wConsT, wTupT, wYes, wNeg, wVar, wC, wOp, wcNil, wcCons, wcOwn, wCall, wCallOwn, slots, cellsOf, OwnArgs, putBack, g2I, g2IC, gLen, gAbs, gGcd, gInt1, gTupleOf, gListOf, gIx, gCatT, gCat, gEq, gNe, gIsN, gNotN, scD, seqD_t, seqD_l, seqD_f, isNonD, List.nodup_cons, List.mem_cons, List.not_mem_nil, or_false, not_false_eq_true, Nat.reduceEqDiff, L3.Keeps, ends, wipeD, List.replicate, List.cons_append, List.nil_append, List.append_nil, List.getElem?_cons_zero, List.getElem?_cons_succ, List.set_cons_zero, List.set_cons_succ, List.getD_cons_zero, List.getD_cons_succ, List.length_cons, List.length_nil, List.nodup_nil, Option.some.injEq, Cell.dat.injEq, Cell.own.injEq, Cont.lst.injEq, D.bl.injEq, D.int.injEq, D.str.injEq, D.tup.injEq, D.lst.injEq, Arg.d.injEq, List.cons.injEq, exists_and_left, exists_and_right, exists_eq_left', exists_eq_left, exists_eq_right, exists_eq_right', exists_eq, exists_eq', and_true, true_and, and_assoc, and_self, exists_const, reduceCtorEq]
    simp_all
  | true =>
    cases d <;> simp [isTupOf] at h
    rename_i ds
    have h' : isTupOf 1 12 (.tup ds) = true := by simp [isTupOf]; omega
    simp only [w_is_widths, fs_is_tuple_of, h', hd, wAugOwn, wEnumL, wTru, wSlA, gCatA, gLtT, gLeT, wFrz, wChain3, wAttr, wMkF, wEnumT, wRevT, wDict0, wDict1, numD3, Nat.reduceAdd, atI0, atI1, atI2, atI3, atI4, ixN51, ixN52, ixN53, List.length_map, wNever, scal, V.int.injEq, V.str.injEq, V.bl.injEq, wSq, wNext, wBreak, wCont, wDrop, wRet, wRetN, wIfS, wAsg, wPar, wLstOwn, wAppend, wSetOwn, wIxOwn, wPeek, wRetOwn, wRetFr, wFor, wB, wNot, wAnd, wOr, wAndV, wOrV, wNotV, wIf, wChain, wNil, wCons, wCB, wTup, wLst, wNoPart, wPart, wSlT, wSlL, wSeq, wRng1, wRng2, wZip, wName, wNilT, wConsT, wTupT, wYes, wNeg, wVar, wC, wOp, wcNil, wcCons, wcOwn, wCall, wCallOwn, slots, cellsOf, OwnArgs, putBack, g2I, g2IC, gLen, gAbs, gGcd, gInt1, gTupleOf, gListOf, gIx, gCatT, gCat, gEq, gNe, gIsN, gNotN, scD, seqD_t, seqD_l, seqD_f, isNonD, List.nodup_cons, List.mem_cons, List.not_mem_nil, or_false, not_false_eq_true, Nat.reduceEqDiff, L3.Keeps, ends, wipeD, List.replicate, List.cons_append, List.nil_append, List.append_nil, List.getElem?_cons_zero, List.getElem?_cons_succ, List.set_cons_zero, List.set_cons_succ, List.getD_cons_zero, List.getD_cons_succ, List.length_cons, List.length_nil, List.nodup_nil, Option.some.injEq, Cell.dat.injEq, Cell.own.injEq, Cont.lst.injEq, D.bl.injEq, D.int.injEq, D.str.injEq, D.tup.injEq, D.lst.injEq, Arg.d.injEq, List.cons.injEq, exists_and_left, exists_and_right, exists_eq_left', exists_eq_left, exists_eq_right, exists_eq_right', exists_eq, exists_eq', and_true, true_and, and_assoc, and_self, exists_const, reduceCtorEq]
    simp only [true_implies, reduceCtorEq, false_implies, and_true]
    refine c1_is_widths_ok hd (by omega) (gAll_map ?_)
    have e1 : isWs (.tup ds) = ds.all (isBetw 0 12) := by simp only [isWs, h', Bool.true_and]
    rw [e1] at hq
    simp only [wAugOwn, wEnumL, wTru, wSlA, gCatA, gLtT, gLeT, wFrz, wChain3, wAttr, wMkF, wEnumT, wRevT, wDict0, wDict1, numD3, Nat.reduceAdd, atI0, atI1, atI2, atI3, atI4, ixN51, ixN52, ixN53, List.length_map, wNever, scal, V.int.injEq, V.str.injEq, V.bl.injEq, wSq, wNext, wBreak, wCont, wDrop, wRet, wRetN, wIfS, wAsg, wPar, wLstOwn, wAppend, wSetOwn, wIxOwn, wPeek, wRetOwn, wRetFr, wFor, wB, wNot, wAnd, wOr, wAndV, wOrV, wNotV, wIf, wChain, wNil, wCons, wCB, wTup, wLst, wNoPart, wPart, wSlT, wSlL, wSeq, wRng1, wRng2, wZip, wName, wNilT, wConsT, wTupT, wYes, wNeg, wVar, wC, wOp, wcNil, wcCons, wcOwn, wCall, wCallOwn, slots, cellsOf, OwnArgs, putBack, g2I, g2IC, gLen, gAbs, gGcd, gInt1, gTupleOf, gListOf, gIx, gCatT, gCat, gEq, gNe, gIsN, gNotN, scD, seqD_t, seqD_l, seqD_f, isNonD, List.nodup_cons, List.mem_cons, List.not_mem_nil, or_false, not_false_eq_true, Nat.reduceEqDiff, L3.Keeps, ends, wipeD, List.replicate, List.cons_append, List.nil_append, List.append_nil, List.getElem?_cons_zero, List.getElem?_cons_succ, List.set_cons_zero, List.set_cons_succ, List.getD_cons_zero, List.getD_cons_succ, List.length_cons, List.length_nil, List.nodup_nil, Option.some.injEq, Cell.dat.injEq, Cell.own.injEq, Cont.lst.injEq, D.bl.injEq, D.int.injEq, D.str.injEq, D.tup.injEq, D.lst.injEq, Arg.d.injEq, List.cons.injEq, exists_and_left, exists_and_right, exists_eq_left', exists_eq_left, exists_eq_right, exists_eq_right', exists_eq, exists_eq', and_true, true_and, and_assoc, and_self, exists_const, reduceCtorEq]
    exact hq
theorem ok_is_widths (T : Txt K mg) : FnOk P w K mg base (L2.CX P w) 4 T.f_is_widths T.fd_is_widths ["thing"] (spOf K 1 (fs_is_widths K)) := by
  refine def_ok T.F_is_widths sc_is_widths (wb := w_is_widths K) pure_is_widths ?_
  intro cdv A outer s H E hr tk
  exact ⟨_, (pss_one (ps_ret (pe_and (pe_callS (ok_is_tuple_of T) (hr.mono (by decide)) rfl T.g_is_tuple_of T.k_is_tuple_of T.b_is_tuple_of (fun σ => passAt tk σ) (pa_cons pe_int (pa_cons (pe_glob (v := .int 12) rfl T.c_MOST_VESSELS ⟨_, rfl⟩) (pa_cons (pv 0) pa_nil)))) (pe_one (pe_callB (cr_all (by rfl)) (by rfl) T.z_all (by decide +kernel) (pa_cons (pe_lc (own := [("width", 1)]) (g := (gName 1)) (tt := tYes) (te := (tCallS (spOf K 1 (fs_is_width K)) (L2.WE W0) (tCons (tVar 1) tNil))) rfl sc_is_widths.nd (pi_seq (pv 0)) (blkOk_by (N := ["thing", "width"]) (sc := defScope s_is_widths) (by decide +kernel)) (fun _ _ _ _ _ => (pg_name (i := 1) sc_is_widths.nd rfl (by first | exact Or.inl rfl | exact Or.inr rfl))) (fun _ _ _ _ _ => pts_nil) (fun _ _ _ _ _ => (pe_callS (ok_is_width T) (hr.mono (by decide)) rfl T.g_is_width T.k_is_width T.b_is_width (fun σ => passAt L2.takes0 σ) (pa_cons (pv 1) pa_nil)))) pa_nil)))))),
    (ds_ret (de_and (de_call (n := 3) (fs := fs_is_tuple_of K) (dac_cons de_int (dac_cons de_int (dac_cons (de_var 0) dac_nil)))) (de_cb o_all (da_cons (de_lc (vs := [1]) (wI := (wSeq (wVar 0))) (wg := (wName 1)) (wt := wYes) (we := (wCall 1 (fs_is_width K) (wcCons (wVar 1) wcNil))) (di_seq (de_var 0)) (dg_name 1) dt_yes (de_call (n := 1) (fs := fs_is_width K) (dac_cons (de_var 1) dac_nil)) (by decide)) da_nil))))⟩
abbrev s_is_pipe : Stmt := topS 26
theorem sc_is_pipe : FnScope ["vessels", "thing", "one", "other", "thresholds"] ["vessels", "thing"] (defScope s_is_pipe) := ⟨rfl, rfl, rfl, by decide +kernel, rfl, by decide +kernel, by decide +kernel⟩
def w_is_pipe (K : PySem.W.Frag) : SW := (wSq (wIfS (wNot (wB (wCall 3 (fs_is_tuple_of K) (wcCons (wC (.int 3)) (wcCons (wC (.int 3)) (wcCons (wVar 1) wcNil)))))) (wRet (wC (.bl false))) wNext)
  (wSq (wAsg (wVar 1) (wTupT 3 (wConsT (wName 2) (wConsT (wName 3) (wConsT (wName 4) wNilT)))))
  (wRet (wAndV (wCall 3 (fs_is_between K) (wcCons (wC (.int 0)) (wcCons (wOp gSubI (wVar 0) (wC (.int 1))) (wcCons (wVar 3) wcNil)))) (wAndV (wCall 3 (fs_is_between K) (wcCons (wC (.int 0)) (wcCons (wOp gSubI (wVar 3) (wC (.int 1))) (wcCons (wVar 2) wcNil)))) (wCall 1 (fs_is_list K) (wcCons (wVar 4) wcNil)))))))
def isPi (v : Int) : D → Bool | .tup [a, .int b, l] => isBetw 0 (v - 1) (.int b) && isBetw 0 (b - 1) a && isLi l | _ => false
def fs_is_pipe (K : PySem.W.Frag) : FS := fun cs q _ => ∃ (v : Int) (d : D), cs = [.dat (.int v), .dat d] ∧ OkD K d ∧ q (.bl (isPi v d)) cs
theorem tup_three {d : D} (h : isTupOf 3 3 d = true) : ∃ x y z, d = .tup [x, y, z] := by
  cases d <;> simp [isTupOf] at h
  rename_i ds
  match ds, h with
  | [], h => simp at h
  | [x], h => simp at h
  | [x, y], h => simp at h
  | [x, y, z], _ => exact ⟨x, y, z, rfl⟩
  | x :: y :: z :: u :: r, h => simp at h; omega
theorem pi_not_three {v : Int} {d : D} (h : isTupOf 3 3 d = false) : isPi v d = false := by
  cases d with
  | tup ds =>
    match ds with
    | [] => rfl
    | [x] => cases x <;> rfl
    | [x, y] => cases x <;> cases y <;> rfl
    | [x, y, z] => simp [isTupOf] at h
    | x :: y :: z :: u :: r => cases x <;> cases y <;> rfl
  | _ => rfl
theorem pure_is_pipe : PureD 2 3 (fs_is_pipe K) (w_is_pipe K) := by
  rintro cs q e - ⟨v, d, rfl, hd, hq⟩
  cases h : isTupOf 3 3 d with
  | false =>
    rw [pi_not_three h] at hq
    simp only [w_is_pipe, fs_is_tuple_of, h, hd, wAugOwn, wEnumL, wTru, wSlA, gCatA, gLtT, gLeT, wFrz, wChain3, wAttr, wMkF, wEnumT, wRevT, wDict0, wDict1, numD3, Nat.reduceAdd, atI0, atI1, atI2, atI3, atI4, ixN51, ixN52, ixN53, List.length_map, wNever, scal, V.int.injEq, V.str.injEq, V.bl.injEq, wSq, wNext, wBreak, wCont, wDrop, wRet, wRetN, wIfS, wAsg, wPar, wLstOwn, wAppend, wSetOwn, wIxOwn, wPeek, wRetOwn, wRetFr, wFor, wB, wNot, wAnd, wOr, wAndV, wOrV, wNotV, wIf, wChain, wNil, wCons, wCB, wTup, wLst, wNoPart, wPart, wSlT, wSlL, wSeq, wRng1, wRng2, wZip, wName, wNilT, wConsT, wTupT, wYes, wNeg, wVar, wC, wOp, wcNil, wcCons, wcOwn, wCall, wCallOwn, slots, cellsOf, OwnArgs, putBack, g2I, g2IC, gLen, gAbs, gGcd, gInt1, gTupleOf, gListOf, gIx, gCatT, gCat, gEq, gNe, gIsN, gNotN, scD, seqD_t, seqD_l, seqD_f, isNonD, List.nodup_cons, List.mem_cons, List.not_mem_nil, or_false, not_false_eq_true, Nat.reduceEqDiff, L3.Keeps, ends, wipeD, List.replicate, List.cons_append, List.nil_append, List.append_nil, List.getElem?_cons_zero, List.getElem?_cons_succ, List.set_cons_zero, List.set_cons_succ, List.getD_cons_zero, List.getD_cons_succ, List.length_cons, List.length_nil, List.nodup_nil, Option.some.injEq, Cell.dat.injEq, Cell.own.injEq, Cont.lst.injEq, D.bl.injEq, D.int.injEq, D.str.injEq, D.tup.injEq, D.lst.injEq, Arg.d.injEq, List.cons.injEq, exists_and_left, exists_and_right, exists_eq_left', exists_eq_left, exists_eq_right, exists_eq_right', exists_eq, exists_eq', and_true, true_and, and_assoc, and_self, exists_const, reduceCtorEq]
    simpa using hq
  | true =>
    obtain ⟨a, b, l, rfl⟩ := tup_three h
    have ha := okTup hd (d := a) (by simp)
    have hb := okTup hd (d := b) (by simp)
    have hl := okTup hd (d := l) (by simp)
    simp only [w_is_pipe, fs_is_tuple_of, fs_is_between, fs_is_list, h, hd, ha, hb, hl, wAugOwn, wEnumL, wTru, wSlA, gCatA, gLtT, gLeT, wFrz, wChain3, wAttr, wMkF, wEnumT, wRevT, wDict0, wDict1, numD3, Nat.reduceAdd, atI0, atI1, atI2, atI3, atI4, ixN51, ixN52, ixN53, List.length_map, wNever, scal, V.int.injEq, V.str.injEq, V.bl.injEq, wSq, wNext, wBreak, wCont, wDrop, wRet, wRetN, wIfS, wAsg, wPar, wLstOwn, wAppend, wSetOwn, wIxOwn, wPeek, wRetOwn, wRetFr, wFor, wB, wNot, wAnd, wOr, wAndV, wOrV, wNotV, wIf, wChain, wNil, wCons, wCB, wTup, wLst, wNoPart, wPart, wSlT, wSlL, wSeq, wRng1, wRng2, wZip, wName, wNilT, wConsT, wTupT, wYes, wNeg, wVar, wC, wOp, wcNil, wcCons, wcOwn, wCall, wCallOwn, slots, cellsOf, OwnArgs, putBack, g2I, g2IC, gLen, gAbs, gGcd, gInt1, gTupleOf, gListOf, gIx, gCatT, gCat, gEq, gNe, gIsN, gNotN, scD, seqD_t, seqD_l, seqD_f, isNonD, List.nodup_cons, List.mem_cons, List.not_mem_nil, or_false, not_false_eq_true, Nat.reduceEqDiff, L3.Keeps, ends, wipeD, List.replicate, List.cons_append, List.nil_append, List.append_nil, List.getElem?_cons_zero, List.getElem?_cons_succ, List.set_cons_zero, List.set_cons_succ, List.getD_cons_zero, List.getD_cons_succ, List.length_cons, List.length_nil, List.nodup_nil, Option.some.injEq, Cell.dat.injEq, Cell.own.injEq, Cont.lst.injEq, D.bl.injEq, D.int.injEq, D.str.injEq, D.tup.injEq, D.lst.injEq, Arg.d.injEq, List.cons.injEq, exists_and_left, exists_and_right, exists_eq_left', exists_eq_left, exists_eq_right, exists_eq_right', exists_eq, exists_eq', and_true, true_and, and_assoc, and_self, exists_const, reduceCtorEq]
    simp only [Bool.not_true, Bool.false_eq_true, false_implies, true_implies, true_and]
    cases e1 : isBetw 0 (v - 1) b with
    | false =>
      have e2 : isPi v (.tup [a, b, l]) = false := by
        cases b <;> simp [isPi]
        intro z
        rw [e1] at z; cases z
      rw [e2] at hq
      simpa using hq
    | true =>
      obtain ⟨i, rfl, _, _⟩ := betw_int e1
      have e2 : isPi v (.tup [a, .int i, l]) = (isBetw 0 (i - 1) a && isLi l) := by simp only [isPi, e1, Bool.true_and]
      rw [e2] at hq
      simp only [D.int.injEq, exists_eq_left', true_implies, reduceCtorEq, false_implies, and_true]
      cases e3 : isBetw 0 (i - 1) a with
      | false => rw [e3] at hq; simpa using hq
      | true => rw [e3] at hq; simpa using hq
theorem ok_is_pipe (T : Txt K mg) : FnOk P w K mg base (L2.CX P w) 5 T.f_is_pipe T.fd_is_pipe ["vessels", "thing"] (spOf K 2 (fs_is_pipe K)) := by
  refine def_ok T.F_is_pipe sc_is_pipe (wb := w_is_pipe K) pure_is_pipe ?_
  intro cdv A outer s H E hr tk
  exact ⟨_, (pss_cons (ps_if (pt_not (pt_val (pe_callS (ok_is_tuple_of T) (hr.mono (by decide)) rfl T.g_is_tuple_of T.k_is_tuple_of T.b_is_tuple_of (fun σ => passAt tk σ) (pa_cons pe_int (pa_cons pe_int (pa_cons (pv 1) pa_nil))))))
        (pss_one (ps_ret pe_bl))
        pss_nil)
      (pss_cons (ps_asg (pv 1) (pg_tup (by rfl) (pgs_cons (pg_name (i := 2) sc_is_pipe.nd rfl (by first | exact Or.inl rfl | exact Or.inr rfl)) (pgs_cons (pg_name (i := 3) sc_is_pipe.nd rfl (by first | exact Or.inl rfl | exact Or.inr rfl)) (pgs_cons (pg_name (i := 4) sc_is_pipe.nd rfl (by first | exact Or.inl rfl | exact Or.inr rfl)) pgs_nil)))))
      (pss_one (ps_ret (pe_and (pe_callS (ok_is_between T) (hr.mono (by decide)) rfl T.g_is_between T.k_is_between T.b_is_between (fun σ => passAt tk σ) (pa_cons pe_int (pa_cons (pe_op op_sub (pv 0) pe_int) (pa_cons (pv 3) pa_nil)))) (pe_and (pe_callS (ok_is_between T) (hr.mono (by decide)) rfl T.g_is_between T.k_is_between T.b_is_between (fun σ => passAt tk σ) (pa_cons pe_int (pa_cons (pe_op op_sub (pv 3) pe_int) (pa_cons (pv 2) pa_nil)))) (pe_one (pe_callS (ok_is_list T) (hr.mono (by decide)) rfl T.g_is_list T.k_is_list T.b_is_list (fun σ => passAt tk σ) (pa_cons (pv 4) pa_nil))))))))),
    (ds_seq (ds_if (dt_not (dt_B (de_call (n := 3) (fs := fs_is_tuple_of K) (dac_cons de_int (dac_cons de_int (dac_cons (de_var 1) dac_nil)))))) (ds_ret de_bl) ds_nil)
      (ds_seq (ds_asg (de_var 1) (dg_tup (n := 3) (dgs_cons (dg_name 2) (dgs_cons (dg_name 3) (dgs_cons (dg_name 4) dgs_nil)))))
      (ds_ret (de_and (de_call (n := 3) (fs := fs_is_between K) (dac_cons de_int (dac_cons (de_op o_sub (de_var 0) de_int) (dac_cons (de_var 3) dac_nil)))) (de_and (de_call (n := 3) (fs := fs_is_between K) (dac_cons de_int (dac_cons (de_op o_sub (de_var 3) de_int) (dac_cons (de_var 2) dac_nil)))) (de_call (n := 1) (fs := fs_is_list K) (dac_cons (de_var 4) dac_nil)))))))⟩
abbrev s_Web__init__ : Stmt := inClass (topS 27) 0
theorem sc_Web__init__ : FnScope ["self", "widths", "pipes", "number", "pipe"] ["self", "widths", "pipes"] (defScope s_Web__init__) := ⟨rfl, rfl, rfl, by decide +kernel, rfl, by decide +kernel, by decide +kernel⟩
def l1_Web__init__ (K : PySem.W.Frag) (Z : CT) : SW := wFor (wEnumT (wCons (wVar 2) wNil)) (wTupT 2 (wConsT (wName 3) (wConsT (wName 4) wNilT))) (wIfS (wNot (wB (wCall 2 (fs_is_pipe K) (wcCons (wCB gLen (wCons (wVar 1) wNil)) (wcCons (wVar 4) wcNil))))) (wRaise1 Z.C_BadWeb "part" (wVar 3)) wNext)
def w_Web__init__ (K : PySem.W.Frag) (Z : CT) : SW := (wSq (wIfS (wNot (wB (wCall 1 (fs_is_widths K) (wcCons (wVar 1) wcNil)))) (wRaise1 Z.C_BadWeb "part" (wC (.str "widths"))) wNext)
  (wSq (wIfS (wNot (wB (wCall 3 (fs_is_tuple_of K) (wcCons (wC (.int 0)) (wcCons (wC (.int 36)) (wcCons (wVar 2) wcNil)))))) (wRaise1 Z.C_BadWeb "part" (wC (.str "pipes"))) wNext)
  (wSq (l1_Web__init__ K Z)
  (wSq (wFld Z.C_Web 0 "widths" (wVar 1))
  (wFld Z.C_Web 0 "pipes" (wVar 2))))))
def firstBad (n : Int) : Nat → List D → Option Nat
  | _, [] => none
  | k, d :: r => if isPi n d = true then firstBad n (k + 1) r else some k
def badWeb (ws ps : D) : Option D :=
  if isWs ws = false then some (.str "widths") else if isTupOf 0 36 ps = false then some (.str "pipes") else
  match ws, ps with
  | .tup us, .tup ds => (firstBad us.length 0 ds).map fun i => .int (i : Nat)
  | _, _ => none
def fs_Web__init__ (K : PySem.W.Frag) (Z : CT) : FS := fun cs q e => ∃ x dx ws ps, cs = [.own x (.obj Z.C_Web dx []), .dat ws, .dat ps] ∧ OkD K ws ∧ OkD K ps ∧
  (∀ part, badWeb ws ps = some part → e ⟨Z.C_BadWeb, [("part", part)]⟩ cs) ∧ (badWeb ws ps = none → q .non [.own x (.obj Z.C_Web dx [("widths", ws), ("pipes", ps)]), .dat ws, .dat ps])
theorem l1_Web__init___ok {Z : CT} {c0 c3 c4 : Cell} {us ds : List D} {E : EndsD} (hd : OkD K (.tup ds)) (hb : ∀ i, firstBad us.length 0 ds = some i → ∀ c3 c4, E.ex ⟨Z.C_BadWeb, [("part", .int (i : Nat))]⟩ [c0, .dat (.tup us), .dat (.tup ds), c3, c4]) (hn : firstBad us.length 0 ds = none → ∀ c3 c4, E.nx [c0, .dat (.tup us), .dat (.tup ds), c3, c4]) : l1_Web__init__ K Z E [c0, .dat (.tup us), .dat (.tup ds), c3, c4] := by
  unfold l1_Web__init__ wFor
  refine ⟨_, rfl, ds, rfl, fun i τ => (∃ c3 c4, τ = [c0, .dat (.tup us), .dat (.tup ds), c3, c4]) ∧ firstBad us.length 0 ds = firstBad us.length i (ds.drop i), ⟨⟨_, _, rfl⟩, rfl⟩, ?_, ?_⟩
  · rintro i d τ2 hi ⟨⟨c3, c4, rfl⟩, hf⟩
    have hlt : i < ds.length := by
      have := (List.getElem?_eq_some_iff.mp hi).1
      rwa [List.length_mapIdx] at this
    rw [List.getElem?_mapIdx, List.getElem?_eq_getElem hlt] at hi
    cases hi
    have ok : OkD K ds[i] := okTup hd (List.getElem_mem hlt)
    rw [List.drop_eq_getElem_cons hlt, firstBad] at hf
    cases h : isPi us.length ds[i] with
    | false =>
      rw [h] at hf
      simp only [fs_is_pipe, wRaise1, seqD_t, ok, h, wAugOwn, wEnumL, wTru, wSlA, gCatA, gLtT, gLeT, wFrz, wChain3, wAttr, wMkF, wEnumT, wRevT, wDict0, wDict1, numD3, Nat.reduceAdd, atI0, atI1, atI2, atI3, atI4, ixN51, ixN52, ixN53, List.length_map, wNever, scal, V.int.injEq, V.str.injEq, V.bl.injEq, wSq, wNext, wBreak, wCont, wDrop, wRet, wRetN, wIfS, wAsg, wPar, wLstOwn, wAppend, wSetOwn, wIxOwn, wPeek, wRetOwn, wRetFr, wFor, wB, wNot, wAnd, wOr, wAndV, wOrV, wNotV, wIf, wChain, wNil, wCons, wCB, wTup, wLst, wNoPart, wPart, wSlT, wSlL, wSeq, wRng1, wRng2, wZip, wName, wNilT, wConsT, wTupT, wYes, wNeg, wVar, wC, wOp, wcNil, wcCons, wcOwn, wCall, wCallOwn, slots, cellsOf, OwnArgs, putBack, g2I, g2IC, gLen, gAbs, gGcd, gInt1, gTupleOf, gListOf, gIx, gCatT, gCat, gEq, gNe, gIsN, gNotN, scD, seqD_t, seqD_l, seqD_f, isNonD, List.nodup_cons, List.mem_cons, List.not_mem_nil, or_false, not_false_eq_true, Nat.reduceEqDiff, L3.Keeps, ends, wipeD, List.replicate, List.cons_append, List.nil_append, List.append_nil, List.getElem?_cons_zero, List.getElem?_cons_succ, List.set_cons_zero, List.set_cons_succ, List.getD_cons_zero, List.getD_cons_succ, List.length_cons, List.length_nil, List.nodup_nil, Option.some.injEq, Cell.dat.injEq, Cell.own.injEq, Cont.lst.injEq, D.bl.injEq, D.int.injEq, D.str.injEq, D.tup.injEq, D.lst.injEq, Arg.d.injEq, List.cons.injEq, exists_and_left, exists_and_right, exists_eq_left', exists_eq_left, exists_eq_right, exists_eq_right', exists_eq, exists_eq', and_true, true_and, and_assoc, and_self, exists_const, reduceCtorEq]
      simp
      exact hb i hf _ _
    | true =>
      rw [h] at hf
      simp only [fs_is_pipe, wRaise1, seqD_t, ok, h, wAugOwn, wEnumL, wTru, wSlA, gCatA, gLtT, gLeT, wFrz, wChain3, wAttr, wMkF, wEnumT, wRevT, wDict0, wDict1, numD3, Nat.reduceAdd, atI0, atI1, atI2, atI3, atI4, ixN51, ixN52, ixN53, List.length_map, wNever, scal, V.int.injEq, V.str.injEq, V.bl.injEq, wSq, wNext, wBreak, wCont, wDrop, wRet, wRetN, wIfS, wAsg, wPar, wLstOwn, wAppend, wSetOwn, wIxOwn, wPeek, wRetOwn, wRetFr, wFor, wB, wNot, wAnd, wOr, wAndV, wOrV, wNotV, wIf, wChain, wNil, wCons, wCB, wTup, wLst, wNoPart, wPart, wSlT, wSlL, wSeq, wRng1, wRng2, wZip, wName, wNilT, wConsT, wTupT, wYes, wNeg, wVar, wC, wOp, wcNil, wcCons, wcOwn, wCall, wCallOwn, slots, cellsOf, OwnArgs, putBack, g2I, g2IC, gLen, gAbs, gGcd, gInt1, gTupleOf, gListOf, gIx, gCatT, gCat, gEq, gNe, gIsN, gNotN, scD, seqD_t, seqD_l, seqD_f, isNonD, List.nodup_cons, List.mem_cons, List.not_mem_nil, or_false, not_false_eq_true, Nat.reduceEqDiff, L3.Keeps, ends, wipeD, List.replicate, List.cons_append, List.nil_append, List.append_nil, List.getElem?_cons_zero, List.getElem?_cons_succ, List.set_cons_zero, List.set_cons_succ, List.getD_cons_zero, List.getD_cons_succ, List.length_cons, List.length_nil, List.nodup_nil, Option.some.injEq, Cell.dat.injEq, Cell.own.injEq, Cont.lst.injEq, D.bl.injEq, D.int.injEq, D.str.injEq, D.tup.injEq, D.lst.injEq, Arg.d.injEq, List.cons.injEq, exists_and_left, exists_and_right, exists_eq_left', exists_eq_left, exists_eq_right, exists_eq_right', exists_eq, exists_eq', and_true, true_and, and_assoc, and_self, exists_const, reduceCtorEq]
      simp
      exact hf
  · rintro τ2 ⟨⟨c3, c4, rfl⟩, hf⟩
    rw [List.length_mapIdx, List.drop_length] at hf
    exact hn hf _ _
theorem pure_Web__init__ {Z : CT} : PureD 3 2 (fs_Web__init__ K Z) (w_Web__init__ K Z) := by
  rintro cs q e - ⟨x, dx, ws, ps, rfl, h1, h2, hb, hn⟩
  cases g1 : isWs ws with
  | false =>
    simp only [badWeb, g1, if_true] at hb
    simp only [w_Web__init__, fs_is_widths, wRaise1, h1, g1, wAugOwn, wEnumL, wTru, wSlA, gCatA, gLtT, gLeT, wFrz, wChain3, wAttr, wMkF, wEnumT, wRevT, wDict0, wDict1, numD3, Nat.reduceAdd, atI0, atI1, atI2, atI3, atI4, ixN51, ixN52, ixN53, List.length_map, wNever, scal, V.int.injEq, V.str.injEq, V.bl.injEq, wSq, wNext, wBreak, wCont, wDrop, wRet, wRetN, wIfS, wAsg, wPar, wLstOwn, wAppend, wSetOwn, wIxOwn, wPeek, wRetOwn, wRetFr, wFor, wB, wNot, wAnd, wOr, wAndV, wOrV, wNotV, wIf, wChain, wNil, wCons, wCB, wTup, wLst, wNoPart, wPart, wSlT, wSlL, wSeq, wRng1, wRng2, wZip, wName, wNilT, wConsT, wTupT, wYes, wNeg, wVar, wC, wOp, wcNil, wcCons, wcOwn, wCall, wCallOwn, slots, cellsOf, OwnArgs, putBack, g2I, g2IC, gLen, gAbs, gGcd, gInt1, gTupleOf, gListOf, gIx, gCatT, gCat, gEq, gNe, gIsN, gNotN, scD, seqD_t, seqD_l, seqD_f, isNonD, List.nodup_cons, List.mem_cons, List.not_mem_nil, or_false, not_false_eq_true, Nat.reduceEqDiff, L3.Keeps, ends, wipeD, List.replicate, List.cons_append, List.nil_append, List.append_nil, List.getElem?_cons_zero, List.getElem?_cons_succ, List.set_cons_zero, List.set_cons_succ, List.getD_cons_zero, List.getD_cons_succ, List.length_cons, List.length_nil, List.nodup_nil, Option.some.injEq, Cell.dat.injEq, Cell.own.injEq, Cont.lst.injEq, D.bl.injEq, D.int.injEq, D.str.injEq, D.tup.injEq, D.lst.injEq, Arg.d.injEq, List.cons.injEq, exists_and_left, exists_and_right, exists_eq_left', exists_eq_left, exists_eq_right, exists_eq_right', exists_eq, exists_eq', and_true, true_and, and_assoc, and_self, exists_const, reduceCtorEq]
    simp
    exact hb _ rfl
  | true =>
    cases g2 : isTupOf 0 36 ps with
    | false =>
      simp only [badWeb, g1, g2, if_true, Bool.true_eq_false, if_false] at hb
      simp only [w_Web__init__, fs_is_widths, fs_is_tuple_of, wRaise1, h1, h2, g1, g2, wAugOwn, wEnumL, wTru, wSlA, gCatA, gLtT, gLeT, wFrz, wChain3, wAttr, wMkF, wEnumT, wRevT, wDict0, wDict1, numD3, Nat.reduceAdd, atI0, atI1, atI2, atI3, atI4, ixN51, ixN52, ixN53, List.length_map, wNever, scal, V.int.injEq, V.str.injEq, V.bl.injEq, wSq, wNext, wBreak, wCont, wDrop, wRet, wRetN, wIfS, wAsg, wPar, wLstOwn, wAppend, wSetOwn, wIxOwn, wPeek, wRetOwn, wRetFr, wFor, wB, wNot, wAnd, wOr, wAndV, wOrV, wNotV, wIf, wChain, wNil, wCons, wCB, wTup, wLst, wNoPart, wPart, wSlT, wSlL, wSeq, wRng1, wRng2, wZip, wName, wNilT, wConsT, wTupT, wYes, wNeg, wVar, wC, wOp, wcNil, wcCons, wcOwn, wCall, wCallOwn, slots, cellsOf, OwnArgs, putBack, g2I, g2IC, gLen, gAbs, gGcd, gInt1, gTupleOf, gListOf, gIx, gCatT, gCat, gEq, gNe, gIsN, gNotN, scD, seqD_t, seqD_l, seqD_f, isNonD, List.nodup_cons, List.mem_cons, List.not_mem_nil, or_false, not_false_eq_true, Nat.reduceEqDiff, L3.Keeps, ends, wipeD, List.replicate, List.cons_append, List.nil_append, List.append_nil, List.getElem?_cons_zero, List.getElem?_cons_succ, List.set_cons_zero, List.set_cons_succ, List.getD_cons_zero, List.getD_cons_succ, List.length_cons, List.length_nil, List.nodup_nil, Option.some.injEq, Cell.dat.injEq, Cell.own.injEq, Cont.lst.injEq, D.bl.injEq, D.int.injEq, D.str.injEq, D.tup.injEq, D.lst.injEq, Arg.d.injEq, List.cons.injEq, exists_and_left, exists_and_right, exists_eq_left', exists_eq_left, exists_eq_right, exists_eq_right', exists_eq, exists_eq', and_true, true_and, and_assoc, and_self, exists_const, reduceCtorEq]
      simp
      exact hb _ rfl
    | true =>
      obtain ⟨us, rfl⟩ : ∃ us, ws = .tup us := by cases ws <;> first | exact ⟨_, rfl⟩ | cases g1
      obtain ⟨ds, rfl⟩ : ∃ us, ps = .tup us := by cases ps <;> first | exact ⟨_, rfl⟩ | cases g2
      simp only [badWeb, g1, g2, Bool.true_eq_false, if_false, Option.map_eq_some_iff, Option.map_eq_none_iff] at hb hn
      simp only [w_Web__init__, fs_is_widths, fs_is_tuple_of, wRaise1, h1, h2, g1, g2, wAugOwn, wEnumL, wTru, wSlA, gCatA, gLtT, gLeT, wFrz, wChain3, wAttr, wMkF, wEnumT, wRevT, wDict0, wDict1, numD3, Nat.reduceAdd, atI0, atI1, atI2, atI3, atI4, ixN51, ixN52, ixN53, List.length_map, wNever, scal, V.int.injEq, V.str.injEq, V.bl.injEq, wSq, wNext, wBreak, wCont, wDrop, wRet, wRetN, wIfS, wAsg, wPar, wLstOwn, wAppend, wSetOwn, wIxOwn, wPeek, wRetOwn, wRetFr, wFor, wB, wNot, wAnd, wOr, wAndV, wOrV, wNotV, wIf, wChain, wNil, wCons, wCB, wTup, wLst, wNoPart, wPart, wSlT, wSlL, wSeq, wRng1, wRng2, wZip, wName, wNilT, wConsT, wTupT, wYes, wNeg, wVar, wC, wOp, wcNil, wcCons, wcOwn, wCall, wCallOwn, slots, cellsOf, OwnArgs, putBack, g2I, g2IC, gLen, gAbs, gGcd, gInt1, gTupleOf, gListOf, gIx, gCatT, gCat, gEq, gNe, gIsN, gNotN, scD, seqD_t, seqD_l, seqD_f, isNonD, List.nodup_cons, List.mem_cons, List.not_mem_nil, or_false, not_false_eq_true, Nat.reduceEqDiff, L3.Keeps, ends, wipeD, List.replicate, List.cons_append, List.nil_append, List.append_nil, List.getElem?_cons_zero, List.getElem?_cons_succ, List.set_cons_zero, List.set_cons_succ, List.getD_cons_zero, List.getD_cons_succ, List.length_cons, List.length_nil, List.nodup_nil, Option.some.injEq, Cell.dat.injEq, Cell.own.injEq, Cont.lst.injEq, D.bl.injEq, D.int.injEq, D.str.injEq, D.tup.injEq, D.lst.injEq, Arg.d.injEq, List.cons.injEq, exists_and_left, exists_and_right, exists_eq_left', exists_eq_left, exists_eq_right, exists_eq_right', exists_eq, exists_eq', and_true, true_and, and_assoc, and_self, exists_const, reduceCtorEq]
      simp
      refine l1_Web__init___ok h2 (fun i hi c3 c4 => ?_) fun h c3 c4 => ?_
      · simp only [wAugOwn, wEnumL, wTru, wSlA, gCatA, gLtT, gLeT, wFrz, wChain3, wAttr, wMkF, wEnumT, wRevT, wDict0, wDict1, numD3, Nat.reduceAdd, atI0, atI1, atI2, atI3, atI4, ixN51, ixN52, ixN53, List.length_map, wNever, scal, V.int.injEq, V.str.injEq, V.bl.injEq, wSq, wNext, wBreak, wCont, wDrop, wRet, wRetN, wIfS, wAsg, wPar, wLstOwn, wAppend, wSetOwn, wIxOwn, wPeek, wRetOwn, wRetFr, wFor, wB, wNot, wAnd, wOr, wAndV, wOrV, wNotV, wIf, wChain, wNil, wCons, wCB, wTup, wLst, wNoPart, wPart, wSlT, wSlL, wSeq, wRng1, wRng2, wZip, wName, wNilT, wConsT, wTupT, wYes, wNeg, wVar, wC, wOp, wcNil, wcCons, wcOwn, wCall, wCallOwn, slots, cellsOf, OwnArgs, putBack, g2I, g2IC, gLen, gAbs, gGcd, gInt1, gTupleOf, gListOf, gIx, gCatT, gCat, gEq, gNe, gIsN, gNotN, scD, seqD_t, seqD_l, seqD_f, isNonD, List.nodup_cons, List.mem_cons, List.not_mem_nil, or_false, not_false_eq_true, Nat.reduceEqDiff, L3.Keeps, ends, wipeD, List.replicate, List.cons_append, List.nil_append, List.append_nil, List.getElem?_cons_zero, List.getElem?_cons_succ, List.set_cons_zero, List.set_cons_succ, List.getD_cons_zero, List.getD_cons_succ, List.length_cons, List.length_nil, List.nodup_nil, Option.some.injEq, Cell.dat.injEq, Cell.own.injEq, Cont.lst.injEq, D.bl.injEq, D.int.injEq, D.str.injEq, D.tup.injEq, D.lst.injEq, Arg.d.injEq, List.cons.injEq, exists_and_left, exists_and_right, exists_eq_left', exists_eq_left, exists_eq_right, exists_eq_right', exists_eq, exists_eq', and_true, true_and, and_assoc, and_self, exists_const, reduceCtorEq]
        exact hb _ ⟨i, hi, rfl⟩
      · have e : putD (Str.ofString "pipes") (D.tup ds) [(Str.ofString "widths", D.tup us)] = [(Str.ofString "widths", D.tup us), (Str.ofString "pipes", D.tup ds)] := by
          unfold putD
          rw [if_neg (by decide +kernel)]
          rfl
        simp only [wFld, wAugOwn, wEnumL, wTru, wSlA, gCatA, gLtT, gLeT, wFrz, wChain3, wAttr, wMkF, wEnumT, wRevT, wDict0, wDict1, numD3, Nat.reduceAdd, atI0, atI1, atI2, atI3, atI4, ixN51, ixN52, ixN53, List.length_map, wNever, scal, V.int.injEq, V.str.injEq, V.bl.injEq, wSq, wNext, wBreak, wCont, wDrop, wRet, wRetN, wIfS, wAsg, wPar, wLstOwn, wAppend, wSetOwn, wIxOwn, wPeek, wRetOwn, wRetFr, wFor, wB, wNot, wAnd, wOr, wAndV, wOrV, wNotV, wIf, wChain, wNil, wCons, wCB, wTup, wLst, wNoPart, wPart, wSlT, wSlL, wSeq, wRng1, wRng2, wZip, wName, wNilT, wConsT, wTupT, wYes, wNeg, wVar, wC, wOp, wcNil, wcCons, wcOwn, wCall, wCallOwn, slots, cellsOf, OwnArgs, putBack, g2I, g2IC, gLen, gAbs, gGcd, gInt1, gTupleOf, gListOf, gIx, gCatT, gCat, gEq, gNe, gIsN, gNotN, scD, seqD_t, seqD_l, seqD_f, isNonD, List.nodup_cons, List.mem_cons, List.not_mem_nil, or_false, not_false_eq_true, Nat.reduceEqDiff, L3.Keeps, ends, wipeD, List.replicate, List.cons_append, List.nil_append, List.append_nil, List.getElem?_cons_zero, List.getElem?_cons_succ, List.set_cons_zero, List.set_cons_succ, List.getD_cons_zero, List.getD_cons_succ, List.length_cons, List.length_nil, List.nodup_nil, Option.some.injEq, Cell.dat.injEq, Cell.own.injEq, Cont.lst.injEq, D.bl.injEq, D.int.injEq, D.str.injEq, D.tup.injEq, D.lst.injEq, Arg.d.injEq, List.cons.injEq, exists_and_left, exists_and_right, exists_eq_left', exists_eq_left, exists_eq_right, exists_eq_right', exists_eq, exists_eq', and_true, true_and, and_assoc, and_self, exists_const, reduceCtorEq]
        simp
        exact ⟨dx, [], ⟨rfl, rfl⟩, (show (0 : Nat) < 1000 by decide), dx, [(Str.ofString "widths", D.tup us)], ⟨rfl, rfl⟩, (show (1 : Nat) < 1000 by decide), by rw [e]; exact hn h⟩
theorem ok_Web__init__ (T : Txt K mg) : FnOk P w K mg base (L2.CX P w) 6 T.f_Web__init__ T.fd_Web__init__ ["self", "widths", "pipes"] (spOf K 3 (fs_Web__init__ K T.Z)) := by
  refine def_ok T.F_Web__init__ sc_Web__init__ (wb := w_Web__init__ K T.Z) pure_Web__init__ ?_
  intro cdv A outer s H E hr tk
  exact ⟨_, (pss_cons (ps_if (pt_not (pt_val (pe_callS (ok_is_widths T) (hr.mono (by decide)) rfl T.g_is_widths T.k_is_widths T.b_is_widths (fun σ => passAt tk σ) (pa_cons (pv 1) pa_nil))))
        (pss_one (ps_raise rfl tk (pmk_oex T.ox_BadWeb T.xi_BadWeb T.xt_BadWeb (okx_BadWeb T) (hr.mono (by decide : 2 ≤ _)) T.bx_BadWeb .nil passL rfl T.gx_BadWeb (pa_cons pe_str pa_nil))))
        pss_nil)
      (pss_cons (ps_if (pt_not (pt_val (pe_callS (ok_is_tuple_of T) (hr.mono (by decide)) rfl T.g_is_tuple_of T.k_is_tuple_of T.b_is_tuple_of (fun σ => passAt tk σ) (pa_cons pe_int (pa_cons (pe_glob (v := .int 36) rfl T.c_MOST_PIPES ⟨_, rfl⟩) (pa_cons (pv 2) pa_nil))))))
        (pss_one (ps_raise rfl tk (pmk_oex T.ox_BadWeb T.xi_BadWeb T.xt_BadWeb (okx_BadWeb T) (hr.mono (by decide : 2 ≤ _)) T.bx_BadWeb .nil passL rfl T.gx_BadWeb (pa_cons pe_str pa_nil))))
        pss_nil)
      (pss_cons (ps_for (passes_of rfl) rfl (pi_enumT (by rfl) T.z_enumerate (pa_cons (pv 2) pa_nil)) (pg_tup (by rfl) (pgs_cons (pg_name (i := 3) sc_Web__init__.nd rfl (by first | exact Or.inl rfl | exact Or.inr rfl)) (pgs_cons (pg_name (i := 4) sc_Web__init__.nd rfl (by first | exact Or.inl rfl | exact Or.inr rfl)) pgs_nil)))
        (pss_one (ps_if (pt_not (pt_val (pe_callS (ok_is_pipe T) (hr.mono (by decide)) rfl T.g_is_pipe T.k_is_pipe T.b_is_pipe (fun σ => passAt tk σ) (pa_cons (pe_callB call_len_seq (by rfl) T.z_len (by decide +kernel) (pa_cons (pv 1) pa_nil)) (pa_cons (pv 4) pa_nil)))))
        (pss_one (ps_raise rfl tk (pmk_oex T.ox_BadWeb T.xi_BadWeb T.xt_BadWeb (okx_BadWeb T) (hr.mono (by decide : 2 ≤ _)) T.bx_BadWeb .nil passL rfl T.gx_BadWeb (pa_cons (pv 3) pa_nil))))
        pss_nil)))
      (pss_cons (ps_fld (pv 0) (pv 1) (by rfl))
      (pss_one (ps_fld (pv 0) (pv 2) (by rfl))))))),
    (ds_seq (ds_if (dt_not (dt_B (de_call (n := 1) (fs := fs_is_widths K) (dac_cons (de_var 1) dac_nil)))) (ds_raise1 (C := T.Z.C_BadWeb) (f := "part") de_str) ds_nil)
      (ds_seq (ds_if (dt_not (dt_B (de_call (n := 3) (fs := fs_is_tuple_of K) (dac_cons de_int (dac_cons de_int (dac_cons (de_var 2) dac_nil)))))) (ds_raise1 (C := T.Z.C_BadWeb) (f := "part") de_str) ds_nil)
      (ds_seq (ds_for (wI := (wEnumT (wCons (wVar 2) wNil))) (wg := (wTupT 2 (wConsT (wName 3) (wConsT (wName 4) wNilT)))) (wb := (wIfS (wNot (wB (wCall 2 (fs_is_pipe K) (wcCons (wCB gLen (wCons (wVar 1) wNil)) (wcCons (wVar 4) wcNil))))) (wRaise1 T.Z.C_BadWeb "part" (wVar 3)) wNext)) (di_enumT (da_cons (de_var 2) da_nil)) (dg_tup (n := 2) (dgs_cons (dg_name 3) (dgs_cons (dg_name 4) dgs_nil))) (ds_if (dt_not (dt_B (de_call (n := 2) (fs := fs_is_pipe K) (dac_cons (de_cb o_len (da_cons (de_var 1) da_nil)) (dac_cons (de_var 4) dac_nil))))) (ds_raise1 (C := T.Z.C_BadWeb) (f := "part") (de_var 3)) ds_nil))
      (ds_seq (ds_fld (i := 0) T.it_Web.cl T.na_Web_widths (de_var 1))
      (ds_fld (i := 0) T.it_Web.cl T.na_Web_pipes (de_var 2))))))⟩
abbrev s_pipe_counts : Stmt := topS 28
theorem sc_pipe_counts : FnScope ["web", "counts", "_", "one", "other"] ["web"] (defScope s_pipe_counts) := ⟨rfl, rfl, rfl, by decide +kernel, rfl, by decide +kernel, by decide +kernel⟩
def c1_pipe_counts (K : PySem.W.Frag) (Z : CT) : SW := wLcOwn 1 (wSeq (wAttr Z.C_Web "widths" (wVar 0))) (wName 2) wYes (wC (.int 0)) [2]
def l2_pipe_counts (K : PySem.W.Frag) (Z : CT) : SW := wFor (wSeq (wAttr Z.C_Web "pipes" (wVar 0))) (wTupT 3 (wConsT (wName 3) (wConsT (wName 4) (wConsT (wName 2) wNilT)))) (wSq (wAugOwn 1 (wVar 3) (wC (.int 1)))
  (wAugOwn 1 (wVar 4) (wC (.int 1))))
def w_pipe_counts (K : PySem.W.Frag) (Z : CT) : SW := (wSq (c1_pipe_counts K Z)
  (wSq (l2_pipe_counts K Z)
  (wRetOwn 1)))
abbrev webD (C : Addr) (ws ps : D) : D := .ins C [("widths", ws), ("pipes", ps)]
theorem web_w {ws ps : D} : ([((Str.ofString "widths"), ws), (Str.ofString "pipes", ps)] : List (Str × D)).lookup (Str.ofString "widths") = some ws := by simp [List.lookup]
theorem web_p {ws ps : D} : ([((Str.ofString "widths"), ws), (Str.ofString "pipes", ps)] : List (Str × D)).lookup (Str.ofString "pipes") = some ps := by
  have : (Str.ofString "pipes" == Str.ofString "widths") = false := by decide +kernel
  simp [List.lookup, this]
theorem pi_l {v : Int} {x y l : D} (h : isIntD x = false) : isPi v (.tup [x, y, l]) = false := by
  cases x <;> first | (cases y <;> (simp [isPi, isBetw]; done)) | cases h
theorem pi_m {v : Int} {x y l : D} (h : isIntD y = false) : isPi v (.tup [x, y, l]) = false := by
  cases y <;> first | (cases x <;> (rfl; done)) | cases h
theorem pi_shape {v : Int} {d : D} (h : isPi v d = true) : ∃ (a b : Int) (l : D), d = .tup [.int a, .int b, l] ∧ 0 ≤ a ∧ a < b ∧ b < v ∧ isLi l = true := by
  cases h2 : isTupOf 3 3 d with
  | false => rw [pi_not_three h2] at h; cases h
  | true =>
    obtain ⟨x, y, l, rfl⟩ := tup_three h2
    cases ix : isIntD x with
    | false => rw [pi_l ix] at h; cases h
    | true =>
      cases iy : isIntD y with
      | false => rw [pi_m iy] at h; cases h
      | true =>
        obtain ⟨a, rfl⟩ := int_of ix
        obtain ⟨b, rfl⟩ := int_of iy
        simp [isPi, isBetw] at h
        exact ⟨a, b, l, rfl, by omega, by omega, by omega, h.2⟩
/-- does the pipe touch the vessel -/
def touch (k : Nat) : D → Bool | .tup [.int a, .int b, _] => decide (a = (k : Int)) || decide (b = (k : Int)) | _ => false
def cntE (ps : List D) (k : Nat) : Nat := (ps.filter (touch k)).length
def cntD (n : Nat) (ps : List D) : List D := (List.range n).map fun k => .int (cntE ps k : Nat)
theorem cntD_len {n : Nat} {ps : List D} : (cntD n ps).length = n := by unfold cntD; rw [List.length_map, List.length_range]
theorem cntD_get {n k : Nat} {ps : List D} (h : k < n) : (cntD n ps)[k]? = some (.int (cntE ps k : Nat)) := by
  unfold cntD
  rw [List.getElem?_map, List.getElem?_range h]
  rfl
/-- a web's widths and pipes -/
def WebV (us ds : List D) : Prop := (1 ≤ us.length ∧ us.length ≤ 12 ∧ ∀ d ∈ us, isBetw 0 12 d = true) ∧ ds.length ≤ 36 ∧ ∀ d ∈ ds, isPi us.length d = true
def fs_pipe_counts (K : PySem.W.Frag) (Z : CT) : FS := fun cs q _ => ∃ us ds, cs = [.dat (webD Z.C_Web (.tup us) (.tup ds))] ∧ WebV us ds ∧ q (.lst (cntD us.length ds)) cs
theorem cnt_step {n a b : Nat} {ps : List D} {l : D} (h1 : a < b) (h2 : b < n) :
    ((cntD n ps).set a (.int ((cntE ps a : Nat) + 1))).set b (.int ((cntE ps b : Nat) + 1)) = cntD n (ps ++ [.tup [.int (a : Nat), .int (b : Nat), l]]) := by
  apply List.ext_getElem?
  intro k
  have app : ∀ k : Nat, cntE (ps ++ [.tup [.int (a : Nat), .int (b : Nat), l]]) k = cntE ps k + if a = k ∨ b = k then 1 else 0 := fun k => by
    unfold cntE
    rw [List.filter_append, List.length_append]
    congr 1
    by_cases z : a = k ∨ b = k
    · rw [if_pos z, List.filter_cons_of_pos (by simp only [touch, Bool.or_eq_true, decide_eq_true_eq]; omega)]
      rfl
    · rw [if_neg z, List.filter_cons_of_neg (by simp only [touch, Bool.or_eq_true, decide_eq_true_eq]; omega)]
      rfl
  by_cases hk : k < n
  · rw [cntD_get hk, app]
    by_cases e2 : b = k
    · subst e2
      rw [List.getElem?_set_self (by rw [List.length_set, cntD_len]; exact hk), if_pos (.inr rfl)]
      simp
    · rw [List.getElem?_set_ne e2]
      by_cases e1 : a = k
      · subst e1
        rw [List.getElem?_set_self (by rw [cntD_len]; exact hk), if_pos (.inl rfl)]
        simp
      · rw [List.getElem?_set_ne e1, cntD_get hk, if_neg (by omega)]
        simp
  · rw [List.getElem?_eq_none (by rw [List.length_set, List.length_set, cntD_len]; omega), List.getElem?_eq_none (by rw [cntD_len]; omega)]
theorem l2_pipe_counts_ok {Z : CT} {us ds : List D} {p : Addr} {c2 c3 c4 : Cell} {E : EndsD} (hd : ∀ d ∈ ds, isPi us.length d = true)
    (hn : ∀ c2 c3 c4, E.nx [.dat (webD Z.C_Web (.tup us) (.tup ds)), .own p (.lst (cntD us.length ds)), c2, c3, c4]) : l2_pipe_counts K Z E [.dat (webD Z.C_Web (.tup us) (.tup ds)), .own p (.lst (cntD us.length [])), c2, c3, c4] := by
  unfold l2_pipe_counts wFor
  refine ⟨_, rfl, _, _, rfl, web_p, ds, rfl, fun i τ => ∃ c2 c3 c4, τ = [.dat (webD Z.C_Web (.tup us) (.tup ds)), .own p (.lst (cntD us.length (ds.take i))), c2, c3, c4], ⟨_, _, _, rfl⟩, ?_, ?_⟩
  · rintro i d τ2 hi ⟨c2, c3, c4, rfl⟩
    obtain ⟨a, b, l, rfl, a0, ab, bn, _⟩ := pi_shape (hd d (List.mem_of_getElem? hi))
    obtain ⟨x, rfl⟩ := Int.eq_ofNat_of_zero_le a0
    obtain ⟨y, rfl⟩ := Int.eq_ofNat_of_zero_le (show 0 ≤ b by omega)
    have tk : ds.take (i + 1) = ds.take i ++ [.tup [.int (x : Nat), .int (y : Nat), l]] := by
      rw [List.take_add_one, hi]
      rfl
    have gx : (cntD us.length (ds.take i))[x]? = some (.int (cntE (ds.take i) x : Nat)) := cntD_get (by omega)
    have gy : ((cntD us.length (ds.take i)).set x (.int ((cntE (ds.take i) x : Nat) + 1)))[y]? = some (.int (cntE (ds.take i) y : Nat)) := by
      rw [List.getElem?_set_ne (by omega)]
      exact cntD_get (by omega)
    simp only [wAugOwn, wEnumL, wTru, wSlA, gCatA, gLtT, gLeT, wFrz, wChain3, wAttr, wMkF, wEnumT, wRevT, wDict0, wDict1, numD3, Nat.reduceAdd, atI0, atI1, atI2, atI3, atI4, ixN51, ixN52, ixN53, List.length_map, wNever, scal, V.int.injEq, V.str.injEq, V.bl.injEq, wSq, wNext, wBreak, wCont, wDrop, wRet, wRetN, wIfS, wAsg, wPar, wLstOwn, wAppend, wSetOwn, wIxOwn, wPeek, wRetOwn, wRetFr, wFor, wB, wNot, wAnd, wOr, wAndV, wOrV, wNotV, wIf, wChain, wNil, wCons, wCB, wTup, wLst, wNoPart, wPart, wSlT, wSlL, wSeq, wRng1, wRng2, wZip, wName, wNilT, wConsT, wTupT, wYes, wNeg, wVar, wC, wOp, wcNil, wcCons, wcOwn, wCall, wCallOwn, slots, cellsOf, OwnArgs, putBack, g2I, g2IC, gLen, gAbs, gGcd, gInt1, gTupleOf, gListOf, gIx, gCatT, gCat, gEq, gNe, gIsN, gNotN, scD, seqD_t, seqD_l, seqD_f, isNonD, List.nodup_cons, List.mem_cons, List.not_mem_nil, or_false, not_false_eq_true, Nat.reduceEqDiff, L3.Keeps, ends, wipeD, List.replicate, List.cons_append, List.nil_append, List.append_nil, List.getElem?_cons_zero, List.getElem?_cons_succ, List.set_cons_zero, List.set_cons_succ, List.getD_cons_zero, List.getD_cons_succ, List.length_cons, List.length_nil, List.nodup_nil, Option.some.injEq, Cell.dat.injEq, Cell.own.injEq, Cont.lst.injEq, D.bl.injEq, D.int.injEq, D.str.injEq, D.tup.injEq, D.lst.injEq, Arg.d.injEq, List.cons.injEq, exists_and_left, exists_and_right, exists_eq_left', exists_eq_left, exists_eq_right, exists_eq_right', exists_eq, exists_eq', and_true, true_and, and_assoc, and_self, exists_const, reduceCtorEq]
    refine ⟨a0, _, gx, by omega, _, gy, ?_⟩
    rw [tk]
    exact cnt_step (by omega) (by omega)
  · rintro τ2 ⟨c2, c3, c4, rfl⟩
    rw [List.take_length]
    exact hn _ _ _
theorem zeros {us : List D} : ((us.filter fun _ => true).map fun _ => D.int 0) = cntD us.length [] := by
  rw [filter_true]
  apply List.ext_getElem
  · rw [List.length_map, cntD_len]
  · intro n h1 h2
    simp [cntD, cntE]
theorem pure_pipe_counts {Z : CT} : PureD 1 4 (fs_pipe_counts K Z) (w_pipe_counts K Z) := by
  rintro cs q e - ⟨us, ds, rfl, ⟨⟨u1, u12, hu⟩, d36, hd⟩, hq⟩
  simp only [w_pipe_counts, wSq]
  unfold c1_pipe_counts wLcOwn
  obtain ⟨hn, inv, h0, hs, hd'⟩ := lc_fm (ds := us) (τ1 := [.dat (webD Z.C_Web (.tup us) (.tup ds)), .any, .any, .any, .any]) (wg := wName 2) (wt := wYes) (we := wC (.int 0)) (vs := [2]) (q := fun d τ => ∃ acc, d = .lst acc ∧ acc = cntD us.length [] ∧ τ = [.dat (webD Z.C_Web (.tup us) (.tup ds)), .any, .any, .any, .any]) (fun _ => .int 0) (fun _ => true) (by omega) (fun d hm k1 k2 h1 _ => by
    simp only [wAugOwn, wEnumL, wTru, wSlA, gCatA, gLtT, gLeT, wFrz, wChain3, wAttr, wMkF, wEnumT, wRevT, wDict0, wDict1, numD3, Nat.reduceAdd, atI0, atI1, atI2, atI3, atI4, ixN51, ixN52, ixN53, List.length_map, wNever, scal, V.int.injEq, V.str.injEq, V.bl.injEq, wSq, wNext, wBreak, wCont, wDrop, wRet, wRetN, wIfS, wAsg, wPar, wLstOwn, wAppend, wSetOwn, wIxOwn, wPeek, wRetOwn, wRetFr, wFor, wB, wNot, wAnd, wOr, wAndV, wOrV, wNotV, wIf, wChain, wNil, wCons, wCB, wTup, wLst, wNoPart, wPart, wSlT, wSlL, wSeq, wRng1, wRng2, wZip, wName, wNilT, wConsT, wTupT, wYes, wNeg, wVar, wC, wOp, wcNil, wcCons, wcOwn, wCall, wCallOwn, slots, cellsOf, OwnArgs, putBack, g2I, g2IC, gLen, gAbs, gGcd, gInt1, gTupleOf, gListOf, gIx, gCatT, gCat, gEq, gNe, gIsN, gNotN, scD, seqD_t, seqD_l, seqD_f, isNonD, List.nodup_cons, List.mem_cons, List.not_mem_nil, or_false, not_false_eq_true, Nat.reduceEqDiff, L3.Keeps, ends, wipeD, List.replicate, List.cons_append, List.nil_append, List.append_nil, List.getElem?_cons_zero, List.getElem?_cons_succ, List.set_cons_zero, List.set_cons_succ, List.getD_cons_zero, List.getD_cons_succ, List.length_cons, List.length_nil, List.nodup_nil, Option.some.injEq, Cell.dat.injEq, Cell.own.injEq, Cont.lst.injEq, D.bl.injEq, D.int.injEq, D.str.injEq, D.tup.injEq, D.lst.injEq, Arg.d.injEq, List.cons.injEq, exists_and_left, exists_and_right, exists_eq_left', exists_eq_left, exists_eq_right, exists_eq_right', exists_eq, exists_eq', and_true, true_and, and_assoc, and_self, exists_const, reduceCtorEq]
    simp only [true_implies]
    exact ⟨h1 rfl _ rfl, fun z => z.elim⟩) ⟨_, rfl, zeros, rfl⟩
  refine ⟨_, rfl, _, _, rfl, web_w, us, rfl, hn, inv, h0, hs, fun acc τ2 h hl p => ?_⟩
  obtain ⟨acc', e1, e2, e3⟩ := hd' acc τ2 h hl
  cases e1
  subst e2
  rw [e3]
  refine l2_pipe_counts_ok (K := K) hd fun c2 c3 c4 => ?_
  simp only [wAugOwn, wEnumL, wTru, wSlA, gCatA, gLtT, gLeT, wFrz, wChain3, wAttr, wMkF, wEnumT, wRevT, wDict0, wDict1, numD3, Nat.reduceAdd, atI0, atI1, atI2, atI3, atI4, ixN51, ixN52, ixN53, List.length_map, wNever, scal, V.int.injEq, V.str.injEq, V.bl.injEq, wSq, wNext, wBreak, wCont, wDrop, wRet, wRetN, wIfS, wAsg, wPar, wLstOwn, wAppend, wSetOwn, wIxOwn, wPeek, wRetOwn, wRetFr, wFor, wB, wNot, wAnd, wOr, wAndV, wOrV, wNotV, wIf, wChain, wNil, wCons, wCB, wTup, wLst, wNoPart, wPart, wSlT, wSlL, wSeq, wRng1, wRng2, wZip, wName, wNilT, wConsT, wTupT, wYes, wNeg, wVar, wC, wOp, wcNil, wcCons, wcOwn, wCall, wCallOwn, slots, cellsOf, OwnArgs, putBack, g2I, g2IC, gLen, gAbs, gGcd, gInt1, gTupleOf, gListOf, gIx, gCatT, gCat, gEq, gNe, gIsN, gNotN, scD, seqD_t, seqD_l, seqD_f, isNonD, List.nodup_cons, List.mem_cons, List.not_mem_nil, or_false, not_false_eq_true, Nat.reduceEqDiff, L3.Keeps, ends, wipeD, List.replicate, List.cons_append, List.nil_append, List.append_nil, List.getElem?_cons_zero, List.getElem?_cons_succ, List.set_cons_zero, List.set_cons_succ, List.getD_cons_zero, List.getD_cons_succ, List.length_cons, List.length_nil, List.nodup_nil, Option.some.injEq, Cell.dat.injEq, Cell.own.injEq, Cont.lst.injEq, D.bl.injEq, D.int.injEq, D.str.injEq, D.tup.injEq, D.lst.injEq, Arg.d.injEq, List.cons.injEq, exists_and_left, exists_and_right, exists_eq_left', exists_eq_left, exists_eq_right, exists_eq_right', exists_eq, exists_eq', and_true, true_and, and_assoc, and_self, exists_const, reduceCtorEq]
  exact hq
theorem ok_pipe_counts (T : Txt K mg) : FnOk P w K mg base (L2.CX P w) 1 T.f_pipe_counts T.fd_pipe_counts ["web"] (spOf K 1 (fs_pipe_counts K T.Z)) := by
  refine def_ok T.F_pipe_counts sc_pipe_counts (wb := w_pipe_counts K T.Z) pure_pipe_counts ?_
  intro cdv A outer s H E hr tk
  exact ⟨_, (pss_cons (ps_setLc (i := 1) (own := [("_", 2)]) (g := (gName 2)) (tt := tYes) (te := (tC (.int 0))) rfl sc_pipe_counts.nd rfl rfl (sw_true rfl rfl (by rfl) (by rfl)) (pi_seq (pe_fld (pv 0) rfl)) (blkOk_by (N := ["web", "counts", "_", "one", "other"]) (sc := defScope s_pipe_counts) (by decide +kernel)) (fun _ _ _ _ _ => (pg_name (i := 2) sc_pipe_counts.nd rfl (by first | exact Or.inl rfl | exact Or.inr rfl))) (fun _ _ _ _ _ => pts_nil) (fun _ _ _ _ _ => pe_int))
      (pss_cons (ps_for (passes_of rfl) rfl (pi_seq (pe_fld (pv 0) rfl)) (pg_tup (by rfl) (pgs_cons (pg_name (i := 3) sc_pipe_counts.nd rfl (by first | exact Or.inl rfl | exact Or.inr rfl)) (pgs_cons (pg_name (i := 4) sc_pipe_counts.nd rfl (by first | exact Or.inl rfl | exact Or.inr rfl)) (pgs_cons (pg_name (i := 2) sc_pipe_counts.nd rfl (by first | exact Or.inl rfl | exact Or.inr rfl)) pgs_nil))))
        (pss_cons (ps_augS (pv 1) (pv 3) get_listN pe_int ip_add set_list)
      (pss_one (ps_augS (pv 1) (pv 4) get_listN pe_int ip_add set_list))))
      (pss_one (ps_ret (pv 1))))),
    (ds_seq (ds_lcOwn (i := 1) (vs := [2]) (wI := (wSeq (wAttr T.Z.C_Web "widths" (wVar 0)))) (wg := (wName 2)) (wt := wYes) (we := (wC (.int 0))) (di_seq (de_fld T.it_Web.cl T.na_Web_widths (de_var 0))) (dg_name 2) dt_yes de_int (by decide))
      (ds_seq (ds_for (wI := (wSeq (wAttr T.Z.C_Web "pipes" (wVar 0)))) (wg := (wTupT 3 (wConsT (wName 3) (wConsT (wName 4) (wConsT (wName 2) wNilT))))) (wb := (wSq (wAugOwn 1 (wVar 3) (wC (.int 1)))
  (wAugOwn 1 (wVar 4) (wC (.int 1))))) (di_seq (de_fld T.it_Web.cl T.na_Web_pipes (de_var 0))) (dg_tup (n := 3) (dgs_cons (dg_name 3) (dgs_cons (dg_name 4) (dgs_cons (dg_name 2) dgs_nil)))) (ds_seq (ds_augOwn (i := 1) (de_var 3) de_int)
      (ds_augOwn (i := 1) (de_var 4) de_int)))
      (ds_retOwn (i := 1))))⟩
abbrev s_is_sort : Stmt := topS 33
theorem sc_is_sort : FnScope ["thing"] ["thing"] (defScope s_is_sort) := ⟨rfl, rfl, rfl, by decide +kernel, rfl, by decide +kernel, by decide +kernel⟩
def w_is_sort (K : PySem.W.Frag) : SW := (wRet (wAndV (wCall 3 (fs_is_tuple_of K) (wcCons (wC (.int 2)) (wcCons (wC (.int 2)) (wcCons (wVar 0) wcNil)))) (wAndV (wCall 1 (fs_is_width K) (wcCons (wOp gIx (wVar 0) (wC (.int 0))) wcNil)) (wCall 3 (fs_is_between K) (wcCons (wC (.int 1)) (wcCons (wC (.int 6)) (wcCons (wOp gIx (wVar 0) (wC (.int 1))) wcNil)))))))
def isSo : D → Bool | .tup [x, y] => isBetw 0 12 x && isBetw 1 6 y | _ => false
theorem so_not_two {d : D} (h : isTupOf 2 2 d = false) : isSo d = false := by
  cases d with
  | tup ds =>
    match ds with
    | [] => rfl
    | [x] => rfl
    | [x, y] => simp [isTupOf] at h
    | x :: y :: z :: r => rfl
  | _ => rfl
def fs_is_sort (K : PySem.W.Frag) : FS := fun cs q _ => ∃ d, cs = [.dat d] ∧ OkD K d ∧ q (.bl (isSo d)) cs
theorem pure_is_sort : PureD 1 0 (fs_is_sort K) (w_is_sort K) := by
  rintro cs q e - ⟨d, rfl, hd, hq⟩
  cases h : isTupOf 2 2 d with
  | false =>
    rw [so_not_two h] at hq
    simp only [w_is_sort, fs_is_tuple_of, h, hd, wAugOwn, wEnumL, wTru, wSlA, gCatA, gLtT, gLeT, wFrz, wChain3, wAttr, wMkF, wEnumT, wRevT, wDict0, wDict1, numD3, Nat.reduceAdd, atI0, atI1, atI2, atI3, atI4, ixN51, ixN52, ixN53, List.length_map, wNever, scal, V.int.injEq, V.str.injEq, V.bl.injEq, wSq, wNext, wBreak, wCont, wDrop, wRet, wRetN, wIfS, wAsg, wPar, wLstOwn, wAppend, wSetOwn, wIxOwn, wPeek, wRetOwn, wRetFr, wFor, wB, wNot, wAnd, wOr, wAndV, wOrV, wNotV, wIf, wChain, wNil, wCons, wCB, wTup, wLst, wNoPart, wPart, wSlT, wSlL, wSeq, wRng1, wRng2, wZip, wName, wNilT, wConsT, wTupT, wYes, wNeg, wVar, wC, wOp, wcNil, wcCons, wcOwn, wCall, wCallOwn, slots, cellsOf, OwnArgs, putBack, g2I, g2IC, gLen, gAbs, gGcd, gInt1, gTupleOf, gListOf, gIx, gCatT, gCat, gEq, gNe, gIsN, gNotN, scD, seqD_t, seqD_l, seqD_f, isNonD, List.nodup_cons, List.mem_cons, List.not_mem_nil, or_false, not_false_eq_true, Nat.reduceEqDiff, L3.Keeps, ends, wipeD, List.replicate, List.cons_append, List.nil_append, List.append_nil, List.getElem?_cons_zero, List.getElem?_cons_succ, List.set_cons_zero, List.set_cons_succ, List.getD_cons_zero, List.getD_cons_succ, List.length_cons, List.length_nil, List.nodup_nil, Option.some.injEq, Cell.dat.injEq, Cell.own.injEq, Cont.lst.injEq, D.bl.injEq, D.int.injEq, D.str.injEq, D.tup.injEq, D.lst.injEq, Arg.d.injEq, List.cons.injEq, exists_and_left, exists_and_right, exists_eq_left', exists_eq_left, exists_eq_right, exists_eq_right', exists_eq, exists_eq', and_true, true_and, and_assoc, and_self, exists_const, reduceCtorEq]
    simpa using hq
  | true =>
    obtain ⟨x, y, rfl⟩ := tup_two h
    have hx := okTup hd (d := x) (by simp)
    have hy := okTup hd (d := y) (by simp)
    simp only [w_is_sort, fs_is_tuple_of, fs_is_width, fs_is_between, seqD_t, h, hd, hx, hy, wAugOwn, wEnumL, wTru, wSlA, gCatA, gLtT, gLeT, wFrz, wChain3, wAttr, wMkF, wEnumT, wRevT, wDict0, wDict1, numD3, Nat.reduceAdd, atI0, atI1, atI2, atI3, atI4, ixN51, ixN52, ixN53, List.length_map, wNever, scal, V.int.injEq, V.str.injEq, V.bl.injEq, wSq, wNext, wBreak, wCont, wDrop, wRet, wRetN, wIfS, wAsg, wPar, wLstOwn, wAppend, wSetOwn, wIxOwn, wPeek, wRetOwn, wRetFr, wFor, wB, wNot, wAnd, wOr, wAndV, wOrV, wNotV, wIf, wChain, wNil, wCons, wCB, wTup, wLst, wNoPart, wPart, wSlT, wSlL, wSeq, wRng1, wRng2, wZip, wName, wNilT, wConsT, wTupT, wYes, wNeg, wVar, wC, wOp, wcNil, wcCons, wcOwn, wCall, wCallOwn, slots, cellsOf, OwnArgs, putBack, g2I, g2IC, gLen, gAbs, gGcd, gInt1, gTupleOf, gListOf, gIx, gCatT, gCat, gEq, gNe, gIsN, gNotN, scD, seqD_t, seqD_l, seqD_f, isNonD, List.nodup_cons, List.mem_cons, List.not_mem_nil, or_false, not_false_eq_true, Nat.reduceEqDiff, L3.Keeps, ends, wipeD, List.replicate, List.cons_append, List.nil_append, List.append_nil, List.getElem?_cons_zero, List.getElem?_cons_succ, List.set_cons_zero, List.set_cons_succ, List.getD_cons_zero, List.getD_cons_succ, List.length_cons, List.length_nil, List.nodup_nil, Option.some.injEq, Cell.dat.injEq, Cell.own.injEq, Cont.lst.injEq, D.bl.injEq, D.int.injEq, D.str.injEq, D.tup.injEq, D.lst.injEq, Arg.d.injEq, List.cons.injEq, exists_and_left, exists_and_right, exists_eq_left', exists_eq_left, exists_eq_right, exists_eq_right', exists_eq, exists_eq', and_true, true_and, and_assoc, and_self, exists_const, reduceCtorEq]
    simp only [isSo] at hq
    cases h1 : isBetw 0 12 x <;> simp [h1] at hq ⊢ <;> exact hq
theorem so_shape {d : D} (h : isSo d = true) : ∃ w c : Int, d = .tup [.int w, .int c] ∧ 0 ≤ w ∧ w ≤ 12 ∧ 1 ≤ c ∧ c ≤ 6 := by
  cases h2 : isTupOf 2 2 d with
  | false => rw [so_not_two h2] at h; cases h
  | true =>
    obtain ⟨x, y, rfl⟩ := tup_two h2
    simp only [isSo, Bool.and_eq_true] at h
    obtain ⟨w, rfl, w0, w1⟩ := betw_int h.1
    obtain ⟨c, rfl, c0, c1⟩ := betw_int h.2
    exact ⟨w, c, rfl, w0, w1, c0, c1⟩
theorem ok_is_sort (T : Txt K mg) : FnOk P w K mg base (L2.CX P w) 4 T.f_is_sort T.fd_is_sort ["thing"] (spOf K 1 (fs_is_sort K)) := by
  refine def_ok T.F_is_sort sc_is_sort (wb := w_is_sort K) pure_is_sort ?_
  intro cdv A outer s H E hr tk
  exact ⟨_, (pss_one (ps_ret (pe_and (pe_callS (ok_is_tuple_of T) (hr.mono (by decide)) rfl T.g_is_tuple_of T.k_is_tuple_of T.b_is_tuple_of (fun σ => passAt tk σ) (pa_cons pe_int (pa_cons pe_int (pa_cons (pv 0) pa_nil)))) (pe_and (pe_callS (ok_is_width T) (hr.mono (by decide)) rfl T.g_is_width T.k_is_width T.b_is_width (fun σ => passAt tk σ) (pa_cons (pe_ix ix_seq (pv 0) pe_int (fun _ _ => rfl)) pa_nil)) (pe_one (pe_callS (ok_is_between T) (hr.mono (by decide)) rfl T.g_is_between T.k_is_between T.b_is_between (fun σ => passAt tk σ) (pa_cons pe_int (pa_cons (pe_glob (v := .int 6) rfl T.c_MOST_CAP ⟨_, rfl⟩) (pa_cons (pe_ix ix_seq (pv 0) pe_int (fun _ _ => rfl)) pa_nil))))))))),
    (ds_ret (de_and (de_call (n := 3) (fs := fs_is_tuple_of K) (dac_cons de_int (dac_cons de_int (dac_cons (de_var 0) dac_nil)))) (de_and (de_call (n := 1) (fs := fs_is_width K) (dac_cons (de_op o_ix (de_var 0) de_int) dac_nil)) (de_call (n := 3) (fs := fs_is_between K) (dac_cons de_int (dac_cons de_int (dac_cons (de_op o_ix (de_var 0) de_int) dac_nil)))))))⟩
abbrev s_is_sort_tuple : Stmt := topS 34
theorem sc_is_sort_tuple : FnScope ["thing", "sort", "width", "_"] ["thing"] (defScope s_is_sort_tuple) := ⟨rfl, rfl, rfl, by decide +kernel, rfl, by decide +kernel, by decide +kernel⟩
def c1_is_sort_tuple (K : PySem.W.Frag) : EW := wLc (wSeq (wVar 0)) (wName 1) wYes (wCall 1 (fs_is_sort K) (wcCons (wVar 1) wcNil)) [1]
def c2_is_sort_tuple (K : PySem.W.Frag) : EW := wLc (wSeq (wVar 0)) (wTupT 2 (wConsT (wName 2) (wConsT (wName 3) wNilT))) (wB (wOp gEq (wVar 2) (wC (.int 0)))) (wC (.int 1)) [2, 3]
def w_is_sort_tuple (K : PySem.W.Frag) : SW := (wSq (wIfS (wOr (wNot (wB (wCall 3 (fs_is_tuple_of K) (wcCons (wC (.int 1)) (wcCons (wC (.int 4)) (wcCons (wVar 0) wcNil)))))) (wNot (wB (wCB gAll (wCons (c1_is_sort_tuple K) wNil))))) (wRet (wC (.bl false))) wNext)
  (wRet (wOp gLeI (wCB gLen (wCons (c2_is_sort_tuple K) wNil)) (wC (.int 1)))))
def isSea : D → Bool | .tup [.int w, _] => decide (w = 0) | _ => false
def isSs : D → Bool | .tup ds => isTupOf 1 4 (.tup ds) && ds.all isSo && decide (((ds.filter isSea).length : Int) ≤ 1) | _ => false
def fs_is_sort_tuple (K : PySem.W.Frag) : FS := fun cs q _ => ∃ d, cs = [.dat d] ∧ OkD K d ∧ q (.bl (isSs d)) cs
theorem c1_is_sort_tuple_ok {ds : List D} {c1 c2 c3 : Cell} {q : D → List Cell → Prop} {e : Xn → List Cell → Prop} (hd : OkD K (.tup ds)) (hn : ds.length ≤ 1000)
    (hq : q (.lst (ds.map fun d => .bl (isSo d))) [.dat (.tup ds), .any, c2, c3]) : c1_is_sort_tuple K [.dat (.tup ds), c1, c2, c3] q e := by
  unfold c1_is_sort_tuple wLc
  refine ⟨_, rfl, ds, rfl, lc_fm (fun d => .bl (isSo d)) (fun _ => true) hn (fun d hm k1 k2 h1 _ => ?_) (by rw [filter_true]; exact hq)⟩
  simp only [fs_is_sort, okTup hd hm, wAugOwn, wEnumL, wTru, wSlA, gCatA, gLtT, gLeT, wFrz, wChain3, wAttr, wMkF, wEnumT, wRevT, wDict0, wDict1, numD3, Nat.reduceAdd, atI0, atI1, atI2, atI3, atI4, ixN51, ixN52, ixN53, List.length_map, wNever, scal, V.int.injEq, V.str.injEq, V.bl.injEq, wSq, wNext, wBreak, wCont, wDrop, wRet, wRetN, wIfS, wAsg, wPar, wLstOwn, wAppend, wSetOwn, wIxOwn, wPeek, wRetOwn, wRetFr, wFor, wB, wNot, wAnd, wOr, wAndV, wOrV, wNotV, wIf, wChain, wNil, wCons, wCB, wTup, wLst, wNoPart, wPart, wSlT, wSlL, wSeq, wRng1, wRng2, wZip, wName, wNilT, wConsT, wTupT, wYes, wNeg, wVar, wC, wOp, wcNil, wcCons, wcOwn, wCall, wCallOwn, slots, cellsOf, OwnArgs, putBack, g2I, g2IC, gLen, gAbs, gGcd, gInt1, gTupleOf, gListOf, gIx, gCatT, gCat, gEq, gNe, gIsN, gNotN, scD, seqD_t, seqD_l, seqD_f, isNonD, List.nodup_cons, List.mem_cons, List.not_mem_nil, or_false, not_false_eq_true, Nat.reduceEqDiff, L3.Keeps, ends, wipeD, List.replicate, List.cons_append, List.nil_append, List.append_nil, List.getElem?_cons_zero, List.getElem?_cons_succ, List.set_cons_zero, List.set_cons_succ, List.getD_cons_zero, List.getD_cons_succ, List.length_cons, List.length_nil, List.nodup_nil, Option.some.injEq, Cell.dat.injEq, Cell.own.injEq, Cont.lst.injEq, D.bl.injEq, D.int.injEq, D.str.injEq, D.tup.injEq, D.lst.injEq, Arg.d.injEq, List.cons.injEq, exists_and_left, exists_and_right, exists_eq_left', exists_eq_left, exists_eq_right, exists_eq_right', exists_eq, exists_eq', and_true, true_and, and_assoc, and_self, exists_const, reduceCtorEq]
  simp only [true_implies]
  exact ⟨h1 rfl _ rfl, fun z => nomatch z⟩
theorem c2_is_sort_tuple_ok {ds : List D} {c1 c2 c3 : Cell} {q : D → List Cell → Prop} {e : Xn → List Cell → Prop} (hs : ∀ d ∈ ds, isSo d = true) (hn : ds.length ≤ 1000)
    (hq : q (.lst ((ds.filter isSea).map fun _ => .int 1)) [.dat (.tup ds), c1, .any, .any]) : c2_is_sort_tuple K [.dat (.tup ds), c1, c2, c3] q e := by
  unfold c2_is_sort_tuple wLc
  refine ⟨_, rfl, ds, rfl, lc_fm (fun _ => .int 1) isSea hn (fun d hm k1 k2 h1 h2 => ?_) hq⟩
  obtain ⟨w, c, rfl, _⟩ := so_shape (hs d hm)
  simp only [wAugOwn, wEnumL, wTru, wSlA, gCatA, gLtT, gLeT, wFrz, wChain3, wAttr, wMkF, wEnumT, wRevT, wDict0, wDict1, numD3, Nat.reduceAdd, atI0, atI1, atI2, atI3, atI4, ixN51, ixN52, ixN53, List.length_map, wNever, scal, V.int.injEq, V.str.injEq, V.bl.injEq, wSq, wNext, wBreak, wCont, wDrop, wRet, wRetN, wIfS, wAsg, wPar, wLstOwn, wAppend, wSetOwn, wIxOwn, wPeek, wRetOwn, wRetFr, wFor, wB, wNot, wAnd, wOr, wAndV, wOrV, wNotV, wIf, wChain, wNil, wCons, wCB, wTup, wLst, wNoPart, wPart, wSlT, wSlL, wSeq, wRng1, wRng2, wZip, wName, wNilT, wConsT, wTupT, wYes, wNeg, wVar, wC, wOp, wcNil, wcCons, wcOwn, wCall, wCallOwn, slots, cellsOf, OwnArgs, putBack, g2I, g2IC, gLen, gAbs, gGcd, gInt1, gTupleOf, gListOf, gIx, gCatT, gCat, gEq, gNe, gIsN, gNotN, scD, seqD_t, seqD_l, seqD_f, isNonD, List.nodup_cons, List.mem_cons, List.not_mem_nil, or_false, not_false_eq_true, Nat.reduceEqDiff, L3.Keeps, ends, wipeD, List.replicate, List.cons_append, List.nil_append, List.append_nil, List.getElem?_cons_zero, List.getElem?_cons_succ, List.set_cons_zero, List.set_cons_succ, List.getD_cons_zero, List.getD_cons_succ, List.length_cons, List.length_nil, List.nodup_nil, Option.some.injEq, Cell.dat.injEq, Cell.own.injEq, Cont.lst.injEq, D.bl.injEq, D.int.injEq, D.str.injEq, D.tup.injEq, D.lst.injEq, Arg.d.injEq, List.cons.injEq, exists_and_left, exists_and_right, exists_eq_left', exists_eq_left, exists_eq_right, exists_eq_right', exists_eq, exists_eq', and_true, true_and, and_assoc, and_self, exists_const, reduceCtorEq]
  exact ⟨fun z => h1 z _ rfl, fun z => h2 z _ rfl⟩
theorem pure_is_sort_tuple : PureD 1 3 (fs_is_sort_tuple K) (w_is_sort_tuple K) := by
  rintro cs q e - ⟨d, rfl, hd, hq⟩
  cases h : isTupOf 1 4 d with
  | false =>
    have e1 : isSs d = false := by cases d <;> simp_all [isSs]
    rw [e1] at hq
    simp only [w_is_sort_tuple, fs_is_tuple_of, h, hd, wAugOwn, wEnumL, wTru, wSlA, gCatA, gLtT, gLeT, wFrz, wChain3, wAttr, wMkF, wEnumT, wRevT, wDict0, wDict1, numD3, Nat.reduceAdd, atI0, atI1, atI2, atI3, atI4, ixN51, ixN52, ixN53, List.length_map, wNever, scal, V.int.injEq, V.str.injEq, V.bl.injEq, wSq, wNext, wBreak, wCont, wDrop, wRet, wRetN, wIfS, wAsg, wPar, wLstOwn, wAppend, wSetOwn, wIxOwn, wPeek, wRetOwn, wRetFr, wFor, wB, wNot, wAnd, wOr, wAndV, wOrV, wNotV, wIf, wChain, wNil, wCons, wCB, wTup, wLst, wNoPart, wPart, wSlT, wSlL, wSeq, wRng1, wRng2, wZip, wName, wNilT, wConsT, wTupT, wYes, wNeg, wVar, wC, wOp, wcNil, wcCons, wcOwn, wCall, wCallOwn, slots, cellsOf, OwnArgs, putBack, g2I, g2IC, gLen, gAbs, gGcd, gInt1, gTupleOf, gListOf, gIx, gCatT, gCat, gEq, gNe, gIsN, gNotN, scD, seqD_t, seqD_l, seqD_f, isNonD, List.nodup_cons, List.mem_cons, List.not_mem_nil, or_false, not_false_eq_true, Nat.reduceEqDiff, L3.Keeps, ends, wipeD, List.replicate, List.cons_append, List.nil_append, List.append_nil, List.getElem?_cons_zero, List.getElem?_cons_succ, List.set_cons_zero, List.set_cons_succ, List.getD_cons_zero, List.getD_cons_succ, List.length_cons, List.length_nil, List.nodup_nil, Option.some.injEq, Cell.dat.injEq, Cell.own.injEq, Cont.lst.injEq, D.bl.injEq, D.int.injEq, D.str.injEq, D.tup.injEq, D.lst.injEq, Arg.d.injEq, List.cons.injEq, exists_and_left, exists_and_right, exists_eq_left', exists_eq_left, exists_eq_right, exists_eq_right', exists_eq, exists_eq', and_true, true_and, and_assoc, and_self, exists_const, reduceCtorEq]
    simpa using hq
  | true =>
    cases d <;> simp [isTupOf] at h
    rename_i ds
    have h' : isTupOf 1 4 (.tup ds) = true := by simp [isTupOf]; omega
    have e1 : isSs (.tup ds) = (ds.all isSo && decide (((ds.filter isSea).length : Int) ≤ 1)) := by simp only [isSs, h', Bool.true_and]
    rw [e1] at hq
    simp only [w_is_sort_tuple, fs_is_tuple_of, h', hd, wAugOwn, wEnumL, wTru, wSlA, gCatA, gLtT, gLeT, wFrz, wChain3, wAttr, wMkF, wEnumT, wRevT, wDict0, wDict1, numD3, Nat.reduceAdd, atI0, atI1, atI2, atI3, atI4, ixN51, ixN52, ixN53, List.length_map, wNever, scal, V.int.injEq, V.str.injEq, V.bl.injEq, wSq, wNext, wBreak, wCont, wDrop, wRet, wRetN, wIfS, wAsg, wPar, wLstOwn, wAppend, wSetOwn, wIxOwn, wPeek, wRetOwn, wRetFr, wFor, wB, wNot, wAnd, wOr, wAndV, wOrV, wNotV, wIf, wChain, wNil, wCons, wCB, wTup, wLst, wNoPart, wPart, wSlT, wSlL, wSeq, wRng1, wRng2, wZip, wName, wNilT, wConsT, wTupT, wYes, wNeg, wVar, wC, wOp, wcNil, wcCons, wcOwn, wCall, wCallOwn, slots, cellsOf, OwnArgs, putBack, g2I, g2IC, gLen, gAbs, gGcd, gInt1, gTupleOf, gListOf, gIx, gCatT, gCat, gEq, gNe, gIsN, gNotN, scD, seqD_t, seqD_l, seqD_f, isNonD, List.nodup_cons, List.mem_cons, List.not_mem_nil, or_false, not_false_eq_true, Nat.reduceEqDiff, L3.Keeps, ends, wipeD, List.replicate, List.cons_append, List.nil_append, List.append_nil, List.getElem?_cons_zero, List.getElem?_cons_succ, List.set_cons_zero, List.set_cons_succ, List.getD_cons_zero, List.getD_cons_succ, List.length_cons, List.length_nil, List.nodup_nil, Option.some.injEq, Cell.dat.injEq, Cell.own.injEq, Cont.lst.injEq, D.bl.injEq, D.int.injEq, D.str.injEq, D.tup.injEq, D.lst.injEq, Arg.d.injEq, List.cons.injEq, exists_and_left, exists_and_right, exists_eq_left', exists_eq_left, exists_eq_right, exists_eq_right', exists_eq, exists_eq', and_true, true_and, and_assoc, and_self, exists_const, reduceCtorEq]
    simp only [Bool.not_true, Bool.false_eq_true, false_implies, true_implies, true_and]
    refine ⟨?_, trivial⟩
    refine c1_is_sort_tuple_ok hd (by omega) ?_
    refine gAll_map ?_
    cases ht : ds.all isSo with
    | false =>
      rw [ht] at hq
      simp only [wAugOwn, wEnumL, wTru, wSlA, gCatA, gLtT, gLeT, wFrz, wChain3, wAttr, wMkF, wEnumT, wRevT, wDict0, wDict1, numD3, Nat.reduceAdd, atI0, atI1, atI2, atI3, atI4, ixN51, ixN52, ixN53, List.length_map, wNever, scal, V.int.injEq, V.str.injEq, V.bl.injEq, wSq, wNext, wBreak, wCont, wDrop, wRet, wRetN, wIfS, wAsg, wPar, wLstOwn, wAppend, wSetOwn, wIxOwn, wPeek, wRetOwn, wRetFr, wFor, wB, wNot, wAnd, wOr, wAndV, wOrV, wNotV, wIf, wChain, wNil, wCons, wCB, wTup, wLst, wNoPart, wPart, wSlT, wSlL, wSeq, wRng1, wRng2, wZip, wName, wNilT, wConsT, wTupT, wYes, wNeg, wVar, wC, wOp, wcNil, wcCons, wcOwn, wCall, wCallOwn, slots, cellsOf, OwnArgs, putBack, g2I, g2IC, gLen, gAbs, gGcd, gInt1, gTupleOf, gListOf, gIx, gCatT, gCat, gEq, gNe, gIsN, gNotN, scD, seqD_t, seqD_l, seqD_f, isNonD, List.nodup_cons, List.mem_cons, List.not_mem_nil, or_false, not_false_eq_true, Nat.reduceEqDiff, L3.Keeps, ends, wipeD, List.replicate, List.cons_append, List.nil_append, List.append_nil, List.getElem?_cons_zero, List.getElem?_cons_succ, List.set_cons_zero, List.set_cons_succ, List.getD_cons_zero, List.getD_cons_succ, List.length_cons, List.length_nil, List.nodup_nil, Option.some.injEq, Cell.dat.injEq, Cell.own.injEq, Cont.lst.injEq, D.bl.injEq, D.int.injEq, D.str.injEq, D.tup.injEq, D.lst.injEq, Arg.d.injEq, List.cons.injEq, exists_and_left, exists_and_right, exists_eq_left', exists_eq_left, exists_eq_right, exists_eq_right', exists_eq, exists_eq', and_true, true_and, and_assoc, and_self, exists_const, reduceCtorEq]
      simpa using hq
    | true =>
      rw [ht] at hq
      simp only [wAugOwn, wEnumL, wTru, wSlA, gCatA, gLtT, gLeT, wFrz, wChain3, wAttr, wMkF, wEnumT, wRevT, wDict0, wDict1, numD3, Nat.reduceAdd, atI0, atI1, atI2, atI3, atI4, ixN51, ixN52, ixN53, List.length_map, wNever, scal, V.int.injEq, V.str.injEq, V.bl.injEq, wSq, wNext, wBreak, wCont, wDrop, wRet, wRetN, wIfS, wAsg, wPar, wLstOwn, wAppend, wSetOwn, wIxOwn, wPeek, wRetOwn, wRetFr, wFor, wB, wNot, wAnd, wOr, wAndV, wOrV, wNotV, wIf, wChain, wNil, wCons, wCB, wTup, wLst, wNoPart, wPart, wSlT, wSlL, wSeq, wRng1, wRng2, wZip, wName, wNilT, wConsT, wTupT, wYes, wNeg, wVar, wC, wOp, wcNil, wcCons, wcOwn, wCall, wCallOwn, slots, cellsOf, OwnArgs, putBack, g2I, g2IC, gLen, gAbs, gGcd, gInt1, gTupleOf, gListOf, gIx, gCatT, gCat, gEq, gNe, gIsN, gNotN, scD, seqD_t, seqD_l, seqD_f, isNonD, List.nodup_cons, List.mem_cons, List.not_mem_nil, or_false, not_false_eq_true, Nat.reduceEqDiff, L3.Keeps, ends, wipeD, List.replicate, List.cons_append, List.nil_append, List.append_nil, List.getElem?_cons_zero, List.getElem?_cons_succ, List.set_cons_zero, List.set_cons_succ, List.getD_cons_zero, List.getD_cons_succ, List.length_cons, List.length_nil, List.nodup_nil, Option.some.injEq, Cell.dat.injEq, Cell.own.injEq, Cont.lst.injEq, D.bl.injEq, D.int.injEq, D.str.injEq, D.tup.injEq, D.lst.injEq, Arg.d.injEq, List.cons.injEq, exists_and_left, exists_and_right, exists_eq_left', exists_eq_left, exists_eq_right, exists_eq_right', exists_eq, exists_eq', and_true, true_and, and_assoc, and_self, exists_const, reduceCtorEq]
      simp only [Bool.not_true, Bool.false_eq_true, false_implies, true_implies, true_and]
      refine c2_is_sort_tuple_ok (List.all_eq_true.mp ht) (by omega) ?_
      simp only [seqD_l, wAugOwn, wEnumL, wTru, wSlA, gCatA, gLtT, gLeT, wFrz, wChain3, wAttr, wMkF, wEnumT, wRevT, wDict0, wDict1, numD3, Nat.reduceAdd, atI0, atI1, atI2, atI3, atI4, ixN51, ixN52, ixN53, List.length_map, wNever, scal, V.int.injEq, V.str.injEq, V.bl.injEq, wSq, wNext, wBreak, wCont, wDrop, wRet, wRetN, wIfS, wAsg, wPar, wLstOwn, wAppend, wSetOwn, wIxOwn, wPeek, wRetOwn, wRetFr, wFor, wB, wNot, wAnd, wOr, wAndV, wOrV, wNotV, wIf, wChain, wNil, wCons, wCB, wTup, wLst, wNoPart, wPart, wSlT, wSlL, wSeq, wRng1, wRng2, wZip, wName, wNilT, wConsT, wTupT, wYes, wNeg, wVar, wC, wOp, wcNil, wcCons, wcOwn, wCall, wCallOwn, slots, cellsOf, OwnArgs, putBack, g2I, g2IC, gLen, gAbs, gGcd, gInt1, gTupleOf, gListOf, gIx, gCatT, gCat, gEq, gNe, gIsN, gNotN, scD, seqD_t, seqD_l, seqD_f, isNonD, List.nodup_cons, List.mem_cons, List.not_mem_nil, or_false, not_false_eq_true, Nat.reduceEqDiff, L3.Keeps, ends, wipeD, List.replicate, List.cons_append, List.nil_append, List.append_nil, List.getElem?_cons_zero, List.getElem?_cons_succ, List.set_cons_zero, List.set_cons_succ, List.getD_cons_zero, List.getD_cons_succ, List.length_cons, List.length_nil, List.nodup_nil, Option.some.injEq, Cell.dat.injEq, Cell.own.injEq, Cont.lst.injEq, D.bl.injEq, D.int.injEq, D.str.injEq, D.tup.injEq, D.lst.injEq, Arg.d.injEq, List.cons.injEq, exists_and_left, exists_and_right, exists_eq_left', exists_eq_left, exists_eq_right, exists_eq_right', exists_eq, exists_eq', and_true, true_and, and_assoc, and_self, exists_const, reduceCtorEq, List.length_map]
      exact hq
theorem ss_shape {d : D} (h : isSs d = true) : ∃ ds, d = .tup ds ∧ 1 ≤ ds.length ∧ ds.length ≤ 4 ∧ (∀ x ∈ ds, isSo x = true) ∧ (ds.filter isSea).length ≤ 1 := by
  cases d <;> simp [isSs] at h
  rename_i ds
  obtain ⟨⟨h1, h2⟩, h3⟩ := h
  simp [isTupOf] at h1
  exact ⟨ds, rfl, by omega, by omega, fun x hx => h2 x hx, by omega⟩
theorem ok_is_sort_tuple (T : Txt K mg) : FnOk P w K mg base (L2.CX P w) 5 T.f_is_sort_tuple T.fd_is_sort_tuple ["thing"] (spOf K 1 (fs_is_sort_tuple K)) := by
  refine def_ok T.F_is_sort_tuple sc_is_sort_tuple (wb := w_is_sort_tuple K) pure_is_sort_tuple ?_
  intro cdv A outer s H E hr tk
  exact ⟨_, (pss_cons (ps_if (PW.pt (pw_or (pt_not (pt_val (pe_callS (ok_is_tuple_of T) (hr.mono (by decide)) rfl T.g_is_tuple_of T.k_is_tuple_of T.b_is_tuple_of (fun σ => passAt tk σ) (pa_cons pe_int (pa_cons (pe_glob (v := .int 4) rfl T.c_MOST_SORTS ⟨_, rfl⟩) (pa_cons (pv 0) pa_nil)))))) (pw_or1 (pt_not (pt_val (pe_callB (cr_all (by rfl)) (by rfl) T.z_all (by decide +kernel) (pa_cons (pe_lc (own := [("sort", 1)]) (g := (gName 1)) (tt := tYes) (te := (tCallS (spOf K 1 (fs_is_sort K)) (L2.WE W0) (tCons (tVar 1) tNil))) rfl sc_is_sort_tuple.nd (pi_seq (pv 0)) (blkOk_by (N := ["thing", "sort", "width", "_"]) (sc := defScope s_is_sort_tuple) (by decide +kernel)) (fun _ _ _ _ _ => (pg_name (i := 1) sc_is_sort_tuple.nd rfl (by first | exact Or.inl rfl | exact Or.inr rfl))) (fun _ _ _ _ _ => pts_nil) (fun _ _ _ _ _ => (pe_callS (ok_is_sort T) (hr.mono (by decide)) rfl T.g_is_sort T.k_is_sort T.b_is_sort (fun σ => passAt L2.takes0 σ) (pa_cons (pv 1) pa_nil)))) pa_nil)))))))
        (pss_one (ps_ret pe_bl))
        pss_nil)
      (pss_one (ps_ret (pe_cmpR op_le (pe_callB call_len_seq (by rfl) T.z_len (by decide +kernel) (pa_cons (pe_lc (own := [("width", 2), ("_", 3)]) (g := (gTup K 2 (gCons (gName 2) (gCons (gName 3) gNil)))) (tt := (tTest (tOp rEq (tVar 2) (tC (.int 0))))) (te := (tC (.int 1))) rfl sc_is_sort_tuple.nd (pi_seq (pv 0)) (blkOk_by (N := ["thing", "sort", "width", "_"]) (sc := defScope s_is_sort_tuple) (by decide +kernel)) (fun _ _ _ _ _ => (pg_tup (by rfl) (pgs_cons (pg_name (i := 2) sc_is_sort_tuple.nd rfl (by first | exact Or.inl rfl | exact Or.inr rfl)) (pgs_cons (pg_name (i := 3) sc_is_sort_tuple.nd rfl (by first | exact Or.inl rfl | exact Or.inr rfl)) pgs_nil)))) (fun _ _ _ _ _ => (pts_one (pt_cmpR op_eq (pv 2) pe_int (nomark _)))) (fun _ _ _ _ _ => pe_int)) pa_nil)) pe_int (nomark _))))),
    (ds_seq (ds_if (dt_or (dt_not (dt_B (de_call (n := 3) (fs := fs_is_tuple_of K) (dac_cons de_int (dac_cons de_int (dac_cons (de_var 0) dac_nil)))))) (dt_not (dt_B (de_cb o_all (da_cons (de_lc (vs := [1]) (wI := (wSeq (wVar 0))) (wg := (wName 1)) (wt := wYes) (we := (wCall 1 (fs_is_sort K) (wcCons (wVar 1) wcNil))) (di_seq (de_var 0)) (dg_name 1) dt_yes (de_call (n := 1) (fs := fs_is_sort K) (dac_cons (de_var 1) dac_nil)) (by decide)) da_nil))))) (ds_ret de_bl) ds_nil)
      (ds_ret (de_op o_le (de_cb o_len (da_cons (de_lc (vs := [2, 3]) (wI := (wSeq (wVar 0))) (wg := (wTupT 2 (wConsT (wName 2) (wConsT (wName 3) wNilT)))) (wt := (wB (wOp gEq (wVar 2) (wC (.int 0))))) (we := (wC (.int 1))) (di_seq (de_var 0)) (dg_tup (n := 2) (dgs_cons (dg_name 2) (dgs_cons (dg_name 3) dgs_nil))) (dt_B (de_op o_eq (de_var 2) de_int)) de_int (by decide)) da_nil)) de_int)))⟩
abbrev s_is_join : Stmt := topS 35
theorem sc_is_join : FnScope ["sorts", "thing", "low", "high"] ["sorts", "thing"] (defScope s_is_join) := ⟨rfl, rfl, rfl, by decide +kernel, rfl, by decide +kernel, by decide +kernel⟩
def w_is_join (K : PySem.W.Frag) : SW := (wSq (wIfS (wNot (wB (wCall 3 (fs_is_tuple_of K) (wcCons (wC (.int 2)) (wcCons (wC (.int 2)) (wcCons (wVar 1) wcNil)))))) (wRet (wC (.bl false))) wNext)
  (wSq (wAsg (wVar 1) (wTupT 2 (wConsT (wName 2) (wConsT (wName 3) wNilT))))
  (wSq (wIfS (wOr (wNot (wB (wCall 3 (fs_is_between K) (wcCons (wC (.int 0)) (wcCons (wOp gSubI (wCB gLen (wCons (wVar 0) wNil)) (wC (.int 1))) (wcCons (wVar 3) wcNil)))))) (wNot (wB (wCall 3 (fs_is_between K) (wcCons (wC (.int 0)) (wcCons (wVar 3) (wcCons (wVar 2) wcNil))))))) (wRet (wC (.bl false))) wNext)
  (wRet (wOrV (wOp gLtI (wVar 2) (wVar 3)) (wOp gGtI (wOp gIx (wOp gIx (wVar 0) (wVar 2)) (wC (.int 0))) (wC (.int 0))))))))
/-- the width of a sort -/
def wAt (ss : List D) (a : Int) : Int := match ss[a.toNat]? with | some (.tup [.int w, _]) => w | _ => 0
def jo (ss : List D) (a b : Int) : Bool := decide (0 ≤ b) && decide (b ≤ (ss.length : Int) - 1) && (decide (0 ≤ a) && decide (a ≤ b)) && (decide (a < b) || decide (0 < wAt ss a))
def isJo (ss : List D) : D → Bool | .tup [.int a, .int b] => jo ss a b | _ => false
theorem jo_not_two {ss : List D} {d : D} (h : isTupOf 2 2 d = false) : isJo ss d = false := by
  cases d with
  | tup ds =>
    match ds with
    | [] => rfl
    | [x] => cases x <;> rfl
    | [x, y] => simp [isTupOf] at h
    | x :: y :: z :: r => cases x <;> cases y <;> rfl
  | _ => rfl
theorem wAt_get {ss : List D} {a : Int} (hs : ∀ d ∈ ss, isSo d = true) (h0 : 0 ≤ a) (h1 : a < ss.length) : ∃ c : Int, atI ss a = some (.tup [.int (wAt ss a), .int c]) ∧ 0 ≤ wAt ss a ∧ wAt ss a ≤ 12 := by
  obtain ⟨k, rfl⟩ := Int.eq_ofNat_of_zero_le h0
  have hk : k < ss.length := by omega
  have e1 : ss[k]? = some ss[k] := List.getElem?_eq_getElem hk
  obtain ⟨w, c, e2, w0, w1, _⟩ := so_shape (hs _ (List.getElem_mem hk))
  rw [e2] at e1
  have e3 : wAt ss (k : Int) = w := by
    unfold wAt
    rw [show ((k : Int)).toNat = k by omega, e1]
  rw [e3]
  exact ⟨c, atI_nat' e1, w0, w1⟩
def fs_is_join (K : PySem.W.Frag) : FS := fun cs q _ => ∃ (ss : List D) (d : D), cs = [.dat (.tup ss), .dat d] ∧ (∀ d ∈ ss, isSo d = true) ∧ OkD K d ∧ q (.bl (isJo ss d)) cs
theorem jo_r {ss : List D} {x y : D} (h : isIntD y = false) : isJo ss (.tup [x, y]) = false := by
  cases x <;> cases y <;> first | rfl | cases h
theorem jo_l {ss : List D} {x y : D} (h : isIntD x = false) : isJo ss (.tup [x, y]) = false := by
  cases x <;> first | rfl | cases h
theorem betw_nint {l h : Int} {x : D} (i : isIntD x = false) : isBetw l h x = false := by
  cases x <;> first | rfl | cases i
theorem pure_is_join : PureD 2 2 (fs_is_join K) (w_is_join K) := by
  rintro cs q e - ⟨ss, d, rfl, hs, hd, hq⟩
  cases h : isTupOf 2 2 d with
  | false =>
    rw [jo_not_two h] at hq
    simp only [w_is_join, fs_is_tuple_of, h, hd, wAugOwn, wEnumL, wTru, wSlA, gCatA, gLtT, gLeT, wFrz, wChain3, wAttr, wMkF, wEnumT, wRevT, wDict0, wDict1, numD3, Nat.reduceAdd, atI0, atI1, atI2, atI3, atI4, ixN51, ixN52, ixN53, List.length_map, wNever, scal, V.int.injEq, V.str.injEq, V.bl.injEq, wSq, wNext, wBreak, wCont, wDrop, wRet, wRetN, wIfS, wAsg, wPar, wLstOwn, wAppend, wSetOwn, wIxOwn, wPeek, wRetOwn, wRetFr, wFor, wB, wNot, wAnd, wOr, wAndV, wOrV, wNotV, wIf, wChain, wNil, wCons, wCB, wTup, wLst, wNoPart, wPart, wSlT, wSlL, wSeq, wRng1, wRng2, wZip, wName, wNilT, wConsT, wTupT, wYes, wNeg, wVar, wC, wOp, wcNil, wcCons, wcOwn, wCall, wCallOwn, slots, cellsOf, OwnArgs, putBack, g2I, g2IC, gLen, gAbs, gGcd, gInt1, gTupleOf, gListOf, gIx, gCatT, gCat, gEq, gNe, gIsN, gNotN, scD, seqD_t, seqD_l, seqD_f, isNonD, List.nodup_cons, List.mem_cons, List.not_mem_nil, or_false, not_false_eq_true, Nat.reduceEqDiff, L3.Keeps, ends, wipeD, List.replicate, List.cons_append, List.nil_append, List.append_nil, List.getElem?_cons_zero, List.getElem?_cons_succ, List.set_cons_zero, List.set_cons_succ, List.getD_cons_zero, List.getD_cons_succ, List.length_cons, List.length_nil, List.nodup_nil, Option.some.injEq, Cell.dat.injEq, Cell.own.injEq, Cont.lst.injEq, D.bl.injEq, D.int.injEq, D.str.injEq, D.tup.injEq, D.lst.injEq, Arg.d.injEq, List.cons.injEq, exists_and_left, exists_and_right, exists_eq_left', exists_eq_left, exists_eq_right, exists_eq_right', exists_eq, exists_eq', and_true, true_and, and_assoc, and_self, exists_const, reduceCtorEq]
    simpa using hq
  | true =>
    obtain ⟨x, y, rfl⟩ := tup_two h
    have hx := okTup hd (d := x) (by simp)
    have hy := okTup hd (d := y) (by simp)
    cases iy : isIntD y with
    | false =>
      rw [jo_r iy] at hq
      simp only [w_is_join, fs_is_tuple_of, fs_is_between, seqD_t, h, hd, hx, hy, betw_nint iy, wAugOwn, wEnumL, wTru, wSlA, gCatA, gLtT, gLeT, wFrz, wChain3, wAttr, wMkF, wEnumT, wRevT, wDict0, wDict1, numD3, Nat.reduceAdd, atI0, atI1, atI2, atI3, atI4, ixN51, ixN52, ixN53, List.length_map, wNever, scal, V.int.injEq, V.str.injEq, V.bl.injEq, wSq, wNext, wBreak, wCont, wDrop, wRet, wRetN, wIfS, wAsg, wPar, wLstOwn, wAppend, wSetOwn, wIxOwn, wPeek, wRetOwn, wRetFr, wFor, wB, wNot, wAnd, wOr, wAndV, wOrV, wNotV, wIf, wChain, wNil, wCons, wCB, wTup, wLst, wNoPart, wPart, wSlT, wSlL, wSeq, wRng1, wRng2, wZip, wName, wNilT, wConsT, wTupT, wYes, wNeg, wVar, wC, wOp, wcNil, wcCons, wcOwn, wCall, wCallOwn, slots, cellsOf, OwnArgs, putBack, g2I, g2IC, gLen, gAbs, gGcd, gInt1, gTupleOf, gListOf, gIx, gCatT, gCat, gEq, gNe, gIsN, gNotN, scD, seqD_t, seqD_l, seqD_f, isNonD, List.nodup_cons, List.mem_cons, List.not_mem_nil, or_false, not_false_eq_true, Nat.reduceEqDiff, L3.Keeps, ends, wipeD, List.replicate, List.cons_append, List.nil_append, List.append_nil, List.getElem?_cons_zero, List.getElem?_cons_succ, List.set_cons_zero, List.set_cons_succ, List.getD_cons_zero, List.getD_cons_succ, List.length_cons, List.length_nil, List.nodup_nil, Option.some.injEq, Cell.dat.injEq, Cell.own.injEq, Cont.lst.injEq, D.bl.injEq, D.int.injEq, D.str.injEq, D.tup.injEq, D.lst.injEq, Arg.d.injEq, List.cons.injEq, exists_and_left, exists_and_right, exists_eq_left', exists_eq_left, exists_eq_right, exists_eq_right', exists_eq, exists_eq', and_true, true_and, and_assoc, and_self, exists_const, reduceCtorEq]
      simp
      exact hq
    | true =>
      obtain ⟨b, rfl⟩ := int_of iy
      cases ix : isIntD x with
      | false =>
        rw [jo_l ix] at hq
        simp only [w_is_join, fs_is_tuple_of, fs_is_between, seqD_t, h, hd, hx, hy, betw_nint ix, wAugOwn, wEnumL, wTru, wSlA, gCatA, gLtT, gLeT, wFrz, wChain3, wAttr, wMkF, wEnumT, wRevT, wDict0, wDict1, numD3, Nat.reduceAdd, atI0, atI1, atI2, atI3, atI4, ixN51, ixN52, ixN53, List.length_map, wNever, scal, V.int.injEq, V.str.injEq, V.bl.injEq, wSq, wNext, wBreak, wCont, wDrop, wRet, wRetN, wIfS, wAsg, wPar, wLstOwn, wAppend, wSetOwn, wIxOwn, wPeek, wRetOwn, wRetFr, wFor, wB, wNot, wAnd, wOr, wAndV, wOrV, wNotV, wIf, wChain, wNil, wCons, wCB, wTup, wLst, wNoPart, wPart, wSlT, wSlL, wSeq, wRng1, wRng2, wZip, wName, wNilT, wConsT, wTupT, wYes, wNeg, wVar, wC, wOp, wcNil, wcCons, wcOwn, wCall, wCallOwn, slots, cellsOf, OwnArgs, putBack, g2I, g2IC, gLen, gAbs, gGcd, gInt1, gTupleOf, gListOf, gIx, gCatT, gCat, gEq, gNe, gIsN, gNotN, scD, seqD_t, seqD_l, seqD_f, isNonD, List.nodup_cons, List.mem_cons, List.not_mem_nil, or_false, not_false_eq_true, Nat.reduceEqDiff, L3.Keeps, ends, wipeD, List.replicate, List.cons_append, List.nil_append, List.append_nil, List.getElem?_cons_zero, List.getElem?_cons_succ, List.set_cons_zero, List.set_cons_succ, List.getD_cons_zero, List.getD_cons_succ, List.length_cons, List.length_nil, List.nodup_nil, Option.some.injEq, Cell.dat.injEq, Cell.own.injEq, Cont.lst.injEq, D.bl.injEq, D.int.injEq, D.str.injEq, D.tup.injEq, D.lst.injEq, Arg.d.injEq, List.cons.injEq, exists_and_left, exists_and_right, exists_eq_left', exists_eq_left, exists_eq_right, exists_eq_right', exists_eq, exists_eq', and_true, true_and, and_assoc, and_self, exists_const, reduceCtorEq]
        simp
        exact ⟨fun _ => hq, fun _ => hq⟩
      | true =>
        obtain ⟨a, rfl⟩ := int_of ix
        have e1 : isJo ss (.tup [.int a, .int b]) = (isBetw 0 ((ss.length : Int) - 1) (.int b) && isBetw 0 b (.int a) && (decide (a < b) || decide (0 < wAt ss a))) := rfl
        rw [e1] at hq
        cases g1 : isBetw 0 ((ss.length : Int) - 1) (.int b) with
        | false =>
          rw [g1] at hq
          simp only [w_is_join, fs_is_tuple_of, fs_is_between, seqD_t, h, hd, hx, hy, g1, wAugOwn, wEnumL, wTru, wSlA, gCatA, gLtT, gLeT, wFrz, wChain3, wAttr, wMkF, wEnumT, wRevT, wDict0, wDict1, numD3, Nat.reduceAdd, atI0, atI1, atI2, atI3, atI4, ixN51, ixN52, ixN53, List.length_map, wNever, scal, V.int.injEq, V.str.injEq, V.bl.injEq, wSq, wNext, wBreak, wCont, wDrop, wRet, wRetN, wIfS, wAsg, wPar, wLstOwn, wAppend, wSetOwn, wIxOwn, wPeek, wRetOwn, wRetFr, wFor, wB, wNot, wAnd, wOr, wAndV, wOrV, wNotV, wIf, wChain, wNil, wCons, wCB, wTup, wLst, wNoPart, wPart, wSlT, wSlL, wSeq, wRng1, wRng2, wZip, wName, wNilT, wConsT, wTupT, wYes, wNeg, wVar, wC, wOp, wcNil, wcCons, wcOwn, wCall, wCallOwn, slots, cellsOf, OwnArgs, putBack, g2I, g2IC, gLen, gAbs, gGcd, gInt1, gTupleOf, gListOf, gIx, gCatT, gCat, gEq, gNe, gIsN, gNotN, scD, seqD_t, seqD_l, seqD_f, isNonD, List.nodup_cons, List.mem_cons, List.not_mem_nil, or_false, not_false_eq_true, Nat.reduceEqDiff, L3.Keeps, ends, wipeD, List.replicate, List.cons_append, List.nil_append, List.append_nil, List.getElem?_cons_zero, List.getElem?_cons_succ, List.set_cons_zero, List.set_cons_succ, List.getD_cons_zero, List.getD_cons_succ, List.length_cons, List.length_nil, List.nodup_nil, Option.some.injEq, Cell.dat.injEq, Cell.own.injEq, Cont.lst.injEq, D.bl.injEq, D.int.injEq, D.str.injEq, D.tup.injEq, D.lst.injEq, Arg.d.injEq, List.cons.injEq, exists_and_left, exists_and_right, exists_eq_left', exists_eq_left, exists_eq_right, exists_eq_right', exists_eq, exists_eq', and_true, true_and, and_assoc, and_self, exists_const, reduceCtorEq]
          simp at hq ⊢
          exact hq
        | true =>
          cases g2 : isBetw 0 b (.int a) with
          | false =>
            rw [g1, g2] at hq
            simp only [w_is_join, fs_is_tuple_of, fs_is_between, seqD_t, h, hd, hx, hy, g1, g2, wAugOwn, wEnumL, wTru, wSlA, gCatA, gLtT, gLeT, wFrz, wChain3, wAttr, wMkF, wEnumT, wRevT, wDict0, wDict1, numD3, Nat.reduceAdd, atI0, atI1, atI2, atI3, atI4, ixN51, ixN52, ixN53, List.length_map, wNever, scal, V.int.injEq, V.str.injEq, V.bl.injEq, wSq, wNext, wBreak, wCont, wDrop, wRet, wRetN, wIfS, wAsg, wPar, wLstOwn, wAppend, wSetOwn, wIxOwn, wPeek, wRetOwn, wRetFr, wFor, wB, wNot, wAnd, wOr, wAndV, wOrV, wNotV, wIf, wChain, wNil, wCons, wCB, wTup, wLst, wNoPart, wPart, wSlT, wSlL, wSeq, wRng1, wRng2, wZip, wName, wNilT, wConsT, wTupT, wYes, wNeg, wVar, wC, wOp, wcNil, wcCons, wcOwn, wCall, wCallOwn, slots, cellsOf, OwnArgs, putBack, g2I, g2IC, gLen, gAbs, gGcd, gInt1, gTupleOf, gListOf, gIx, gCatT, gCat, gEq, gNe, gIsN, gNotN, scD, seqD_t, seqD_l, seqD_f, isNonD, List.nodup_cons, List.mem_cons, List.not_mem_nil, or_false, not_false_eq_true, Nat.reduceEqDiff, L3.Keeps, ends, wipeD, List.replicate, List.cons_append, List.nil_append, List.append_nil, List.getElem?_cons_zero, List.getElem?_cons_succ, List.set_cons_zero, List.set_cons_succ, List.getD_cons_zero, List.getD_cons_succ, List.length_cons, List.length_nil, List.nodup_nil, Option.some.injEq, Cell.dat.injEq, Cell.own.injEq, Cont.lst.injEq, D.bl.injEq, D.int.injEq, D.str.injEq, D.tup.injEq, D.lst.injEq, Arg.d.injEq, List.cons.injEq, exists_and_left, exists_and_right, exists_eq_left', exists_eq_left, exists_eq_right, exists_eq_right', exists_eq, exists_eq', and_true, true_and, and_assoc, and_self, exists_const, reduceCtorEq]
            simp at hq ⊢
            exact hq
          | true =>
            obtain ⟨_, eb, b0, b1⟩ := betw_int g1
            cases eb
            obtain ⟨_, ea, a0, a1⟩ := betw_int g2
            cases ea
            obtain ⟨c, at1, _⟩ := wAt_get hs a0 (by omega)
            rw [g1, g2] at hq
            simp only [w_is_join, fs_is_tuple_of, fs_is_between, seqD_t, h, hd, hx, hy, g1, g2, at1, wAugOwn, wEnumL, wTru, wSlA, gCatA, gLtT, gLeT, wFrz, wChain3, wAttr, wMkF, wEnumT, wRevT, wDict0, wDict1, numD3, Nat.reduceAdd, atI0, atI1, atI2, atI3, atI4, ixN51, ixN52, ixN53, List.length_map, wNever, scal, V.int.injEq, V.str.injEq, V.bl.injEq, wSq, wNext, wBreak, wCont, wDrop, wRet, wRetN, wIfS, wAsg, wPar, wLstOwn, wAppend, wSetOwn, wIxOwn, wPeek, wRetOwn, wRetFr, wFor, wB, wNot, wAnd, wOr, wAndV, wOrV, wNotV, wIf, wChain, wNil, wCons, wCB, wTup, wLst, wNoPart, wPart, wSlT, wSlL, wSeq, wRng1, wRng2, wZip, wName, wNilT, wConsT, wTupT, wYes, wNeg, wVar, wC, wOp, wcNil, wcCons, wcOwn, wCall, wCallOwn, slots, cellsOf, OwnArgs, putBack, g2I, g2IC, gLen, gAbs, gGcd, gInt1, gTupleOf, gListOf, gIx, gCatT, gCat, gEq, gNe, gIsN, gNotN, scD, seqD_t, seqD_l, seqD_f, isNonD, List.nodup_cons, List.mem_cons, List.not_mem_nil, or_false, not_false_eq_true, Nat.reduceEqDiff, L3.Keeps, ends, wipeD, List.replicate, List.cons_append, List.nil_append, List.append_nil, List.getElem?_cons_zero, List.getElem?_cons_succ, List.set_cons_zero, List.set_cons_succ, List.getD_cons_zero, List.getD_cons_succ, List.length_cons, List.length_nil, List.nodup_nil, Option.some.injEq, Cell.dat.injEq, Cell.own.injEq, Cont.lst.injEq, D.bl.injEq, D.int.injEq, D.str.injEq, D.tup.injEq, D.lst.injEq, Arg.d.injEq, List.cons.injEq, exists_and_left, exists_and_right, exists_eq_left', exists_eq_left, exists_eq_right, exists_eq_right', exists_eq, exists_eq', and_true, true_and, and_assoc, and_self, exists_const, reduceCtorEq]
            simp only [Bool.not_true, Bool.false_eq_true, false_implies, true_implies, true_and]
            simp only [Bool.true_and] at hq
            cases l1 : decide (a < b) with
            | true =>
              rw [l1] at hq
              simp at hq ⊢
              exact hq
            | false =>
              rw [l1] at hq
              simp at hq ⊢
              exact hq
theorem ok_is_join (T : Txt K mg) : FnOk P w K mg base (L2.CX P w) 3 T.f_is_join T.fd_is_join ["sorts", "thing"] (spOf K 2 (fs_is_join K)) := by
  refine def_ok T.F_is_join sc_is_join (wb := w_is_join K) pure_is_join ?_
  intro cdv A outer s H E hr tk
  exact ⟨_, (pss_cons (ps_if (pt_not (pt_val (pe_callS (ok_is_tuple_of T) (hr.mono (by decide)) rfl T.g_is_tuple_of T.k_is_tuple_of T.b_is_tuple_of (fun σ => passAt tk σ) (pa_cons pe_int (pa_cons pe_int (pa_cons (pv 1) pa_nil))))))
        (pss_one (ps_ret pe_bl))
        pss_nil)
      (pss_cons (ps_asg (pv 1) (pg_tup (by rfl) (pgs_cons (pg_name (i := 2) sc_is_join.nd rfl (by first | exact Or.inl rfl | exact Or.inr rfl)) (pgs_cons (pg_name (i := 3) sc_is_join.nd rfl (by first | exact Or.inl rfl | exact Or.inr rfl)) pgs_nil))))
      (pss_cons (ps_if (PW.pt (pw_or (pt_not (pt_val (pe_callS (ok_is_between T) (hr.mono (by decide)) rfl T.g_is_between T.k_is_between T.b_is_between (fun σ => passAt tk σ) (pa_cons pe_int (pa_cons (pe_op op_sub (pe_callB call_len_seq (by rfl) T.z_len (by decide +kernel) (pa_cons (pv 0) pa_nil)) pe_int) (pa_cons (pv 3) pa_nil)))))) (pw_or1 (pt_not (pt_val (pe_callS (ok_is_between T) (hr.mono (by decide)) rfl T.g_is_between T.k_is_between T.b_is_between (fun σ => passAt tk σ) (pa_cons pe_int (pa_cons (pv 3) (pa_cons (pv 2) pa_nil)))))))))
        (pss_one (ps_ret pe_bl))
        pss_nil)
      (pss_one (ps_ret (pe_or (pe_cmpR op_lt (pv 2) (pv 3) (nomark _)) (pe_one (pe_cmpR op_gt (pe_ix ix_seq (pe_ix ix_seq (pv 0) (pv 2) (fun _ _ => rfl)) pe_int (fun _ _ => rfl)) pe_int (nomark _))))))))),
    (ds_seq (ds_if (dt_not (dt_B (de_call (n := 3) (fs := fs_is_tuple_of K) (dac_cons de_int (dac_cons de_int (dac_cons (de_var 1) dac_nil)))))) (ds_ret de_bl) ds_nil)
      (ds_seq (ds_asg (de_var 1) (dg_tup (n := 2) (dgs_cons (dg_name 2) (dgs_cons (dg_name 3) dgs_nil))))
      (ds_seq (ds_if (dt_or (dt_not (dt_B (de_call (n := 3) (fs := fs_is_between K) (dac_cons de_int (dac_cons (de_op o_sub (de_cb o_len (da_cons (de_var 0) da_nil)) de_int) (dac_cons (de_var 3) dac_nil)))))) (dt_not (dt_B (de_call (n := 3) (fs := fs_is_between K) (dac_cons de_int (dac_cons (de_var 3) (dac_cons (de_var 2) dac_nil))))))) (ds_ret de_bl) ds_nil)
      (ds_ret (de_or (de_op o_lt (de_var 2) (de_var 3)) (de_op o_gt (de_op o_ix (de_op o_ix (de_var 0) (de_var 2)) de_int) de_int))))))⟩
abbrev s_is_kind : Stmt := topS 36
theorem sc_is_kind : FnScope ["sorts", "thing", "thresholds", "joins", "join"] ["sorts", "thing"] (defScope s_is_kind) := ⟨rfl, rfl, rfl, by decide +kernel, rfl, by decide +kernel, by decide +kernel⟩
def c1_is_kind (K : PySem.W.Frag) : EW := wLc (wSeq (wVar 3)) (wName 4) wYes (wCall 2 (fs_is_join K) (wcCons (wVar 0) (wcCons (wVar 4) wcNil))) [4]
def w_is_kind (K : PySem.W.Frag) : SW := (wSq (wIfS (wNot (wB (wCall 3 (fs_is_tuple_of K) (wcCons (wC (.int 2)) (wcCons (wC (.int 2)) (wcCons (wVar 1) wcNil)))))) (wRet (wC (.bl false))) wNext)
  (wSq (wAsg (wVar 1) (wTupT 2 (wConsT (wName 2) (wConsT (wName 3) wNilT))))
  (wSq (wIfS (wOr (wNot (wB (wCall 1 (fs_is_list K) (wcCons (wVar 2) wcNil)))) (wOr (wNot (wB (wCB (gIsi K) (wCons (wVar 3) (wCons (wC (.ty "tuple")) wNil))))) (wNot (wTru (wVar 3))))) (wRet (wC (.bl false))) wNext)
  (wRet (wAndV (wCB gAll (wCons (c1_is_kind K) wNil)) (wCall 1 (fs_ascends K) (wcCons (wVar 3) wcNil)))))))
def isKi (ss : List D) : D → Bool | .tup [l, .tup js] => isLi l && !js.isEmpty && (js.all (isJo ss) && ascJ js) | _ => false
theorem ki_not_two {ss : List D} {d : D} (h : isTupOf 2 2 d = false) : isKi ss d = false := by
  cases d with
  | tup ds =>
    match ds with
    | [] => rfl
    | [x] => rfl
    | [x, y] => simp [isTupOf] at h
    | x :: y :: z :: r => cases y <;> rfl
  | _ => rfl
theorem jo_pair {ss : List D} {d : D} (h : isJo ss d = true) : ∃ a b : Int, d = .tup [.int a, .int b] ∧ jo ss a b = true := by
  cases h2 : isTupOf 2 2 d with
  | false => rw [jo_not_two h2] at h; cases h
  | true =>
    obtain ⟨x, y, rfl⟩ := tup_two h2
    cases iy : isIntD y with
    | false => rw [jo_r iy] at h; cases h
    | true =>
      cases ix : isIntD x with
      | false => rw [jo_l ix] at h; cases h
      | true =>
        obtain ⟨a, rfl⟩ := int_of ix
        obtain ⟨b, rfl⟩ := int_of iy
        exact ⟨a, b, rfl, h⟩
/-- a tuple of joins is not long -/
def JsShort : D → Prop | .tup [_, .tup js] => js.length ≤ 900 | _ => True
def fs_is_kind (K : PySem.W.Frag) : FS := fun cs q _ => ∃ (ss : List D) (d : D), cs = [.dat (.tup ss), .dat d] ∧ (∀ d ∈ ss, isSo d = true) ∧ OkD K d ∧ JsShort d ∧ q (.bl (isKi ss d)) cs
theorem c1_is_kind_ok {ss js : List D} {c1 c2 c4 : Cell} {q : D → List Cell → Prop} {e : Xn → List Cell → Prop} (hs : ∀ d ∈ ss, isSo d = true) (hd : OkD K (.tup js)) (hn : js.length ≤ 1000)
    (hq : q (.lst (js.map fun d => .bl (isJo ss d))) [.dat (.tup ss), c1, c2, .dat (.tup js), .any]) : c1_is_kind K [.dat (.tup ss), c1, c2, .dat (.tup js), c4] q e := by
  unfold c1_is_kind wLc
  refine ⟨_, rfl, js, rfl, lc_fm (fun d => .bl (isJo ss d)) (fun _ => true) hn (fun d hm k1 k2 h1 _ => ?_) (by rw [filter_true]; exact hq)⟩
  simp only [fs_is_join, okTup hd hm, wAugOwn, wEnumL, wTru, wSlA, gCatA, gLtT, gLeT, wFrz, wChain3, wAttr, wMkF, wEnumT, wRevT, wDict0, wDict1, numD3, Nat.reduceAdd, atI0, atI1, atI2, atI3, atI4, ixN51, ixN52, ixN53, List.length_map, wNever, scal, V.int.injEq, V.str.injEq, V.bl.injEq, wSq, wNext, wBreak, wCont, wDrop, wRet, wRetN, wIfS, wAsg, wPar, wLstOwn, wAppend, wSetOwn, wIxOwn, wPeek, wRetOwn, wRetFr, wFor, wB, wNot, wAnd, wOr, wAndV, wOrV, wNotV, wIf, wChain, wNil, wCons, wCB, wTup, wLst, wNoPart, wPart, wSlT, wSlL, wSeq, wRng1, wRng2, wZip, wName, wNilT, wConsT, wTupT, wYes, wNeg, wVar, wC, wOp, wcNil, wcCons, wcOwn, wCall, wCallOwn, slots, cellsOf, OwnArgs, putBack, g2I, g2IC, gLen, gAbs, gGcd, gInt1, gTupleOf, gListOf, gIx, gCatT, gCat, gEq, gNe, gIsN, gNotN, scD, seqD_t, seqD_l, seqD_f, isNonD, List.nodup_cons, List.mem_cons, List.not_mem_nil, or_false, not_false_eq_true, Nat.reduceEqDiff, L3.Keeps, ends, wipeD, List.replicate, List.cons_append, List.nil_append, List.append_nil, List.getElem?_cons_zero, List.getElem?_cons_succ, List.set_cons_zero, List.set_cons_succ, List.getD_cons_zero, List.getD_cons_succ, List.length_cons, List.length_nil, List.nodup_nil, Option.some.injEq, Cell.dat.injEq, Cell.own.injEq, Cont.lst.injEq, D.bl.injEq, D.int.injEq, D.str.injEq, D.tup.injEq, D.lst.injEq, Arg.d.injEq, List.cons.injEq, exists_and_left, exists_and_right, exists_eq_left', exists_eq_left, exists_eq_right, exists_eq_right', exists_eq, exists_eq', and_true, true_and, and_assoc, and_self, exists_const, reduceCtorEq]
  simp only [true_implies]
  exact ⟨⟨hs, h1 rfl _ rfl⟩, fun z => nomatch z⟩
theorem pure_is_kind : PureD 2 3 (fs_is_kind K) (w_is_kind K) := by
  rintro cs q e - ⟨ss, d, rfl, hs, hd, hj, hq⟩
  cases h : isTupOf 2 2 d with
  | false =>
    rw [ki_not_two h] at hq
    simp only [w_is_kind, fs_is_tuple_of, h, hd, wAugOwn, wEnumL, wTru, wSlA, gCatA, gLtT, gLeT, wFrz, wChain3, wAttr, wMkF, wEnumT, wRevT, wDict0, wDict1, numD3, Nat.reduceAdd, atI0, atI1, atI2, atI3, atI4, ixN51, ixN52, ixN53, List.length_map, wNever, scal, V.int.injEq, V.str.injEq, V.bl.injEq, wSq, wNext, wBreak, wCont, wDrop, wRet, wRetN, wIfS, wAsg, wPar, wLstOwn, wAppend, wSetOwn, wIxOwn, wPeek, wRetOwn, wRetFr, wFor, wB, wNot, wAnd, wOr, wAndV, wOrV, wNotV, wIf, wChain, wNil, wCons, wCB, wTup, wLst, wNoPart, wPart, wSlT, wSlL, wSeq, wRng1, wRng2, wZip, wName, wNilT, wConsT, wTupT, wYes, wNeg, wVar, wC, wOp, wcNil, wcCons, wcOwn, wCall, wCallOwn, slots, cellsOf, OwnArgs, putBack, g2I, g2IC, gLen, gAbs, gGcd, gInt1, gTupleOf, gListOf, gIx, gCatT, gCat, gEq, gNe, gIsN, gNotN, scD, seqD_t, seqD_l, seqD_f, isNonD, List.nodup_cons, List.mem_cons, List.not_mem_nil, or_false, not_false_eq_true, Nat.reduceEqDiff, L3.Keeps, ends, wipeD, List.replicate, List.cons_append, List.nil_append, List.append_nil, List.getElem?_cons_zero, List.getElem?_cons_succ, List.set_cons_zero, List.set_cons_succ, List.getD_cons_zero, List.getD_cons_succ, List.length_cons, List.length_nil, List.nodup_nil, Option.some.injEq, Cell.dat.injEq, Cell.own.injEq, Cont.lst.injEq, D.bl.injEq, D.int.injEq, D.str.injEq, D.tup.injEq, D.lst.injEq, Arg.d.injEq, List.cons.injEq, exists_and_left, exists_and_right, exists_eq_left', exists_eq_left, exists_eq_right, exists_eq_right', exists_eq, exists_eq', and_true, true_and, and_assoc, and_self, exists_const, reduceCtorEq]
    simpa using hq
  | true =>
    obtain ⟨l, js, rfl⟩ := tup_two h
    have hl := okTup hd (d := l) (by simp)
    have hjs := okTup hd (d := js) (by simp)
    cases g1 : isLi l with
    | false =>
      have e1 : isKi ss (.tup [l, js]) = false := by cases js <;> simp [isKi, g1]
      rw [e1] at hq
      simp only [w_is_kind, fs_is_tuple_of, fs_is_list, seqD_t, h, hd, hl, hjs, g1, wAugOwn, wEnumL, wTru, wSlA, gCatA, gLtT, gLeT, wFrz, wChain3, wAttr, wMkF, wEnumT, wRevT, wDict0, wDict1, numD3, Nat.reduceAdd, atI0, atI1, atI2, atI3, atI4, ixN51, ixN52, ixN53, List.length_map, wNever, scal, V.int.injEq, V.str.injEq, V.bl.injEq, wSq, wNext, wBreak, wCont, wDrop, wRet, wRetN, wIfS, wAsg, wPar, wLstOwn, wAppend, wSetOwn, wIxOwn, wPeek, wRetOwn, wRetFr, wFor, wB, wNot, wAnd, wOr, wAndV, wOrV, wNotV, wIf, wChain, wNil, wCons, wCB, wTup, wLst, wNoPart, wPart, wSlT, wSlL, wSeq, wRng1, wRng2, wZip, wName, wNilT, wConsT, wTupT, wYes, wNeg, wVar, wC, wOp, wcNil, wcCons, wcOwn, wCall, wCallOwn, slots, cellsOf, OwnArgs, putBack, g2I, g2IC, gLen, gAbs, gGcd, gInt1, gTupleOf, gListOf, gIx, gCatT, gCat, gEq, gNe, gIsN, gNotN, scD, seqD_t, seqD_l, seqD_f, isNonD, List.nodup_cons, List.mem_cons, List.not_mem_nil, or_false, not_false_eq_true, Nat.reduceEqDiff, L3.Keeps, ends, wipeD, List.replicate, List.cons_append, List.nil_append, List.append_nil, List.getElem?_cons_zero, List.getElem?_cons_succ, List.set_cons_zero, List.set_cons_succ, List.getD_cons_zero, List.getD_cons_succ, List.length_cons, List.length_nil, List.nodup_nil, Option.some.injEq, Cell.dat.injEq, Cell.own.injEq, Cont.lst.injEq, D.bl.injEq, D.int.injEq, D.str.injEq, D.tup.injEq, D.lst.injEq, Arg.d.injEq, List.cons.injEq, exists_and_left, exists_and_right, exists_eq_left', exists_eq_left, exists_eq_right, exists_eq_right', exists_eq, exists_eq', and_true, true_and, and_assoc, and_self, exists_const, reduceCtorEq]
      simp
      exact hq
    | true =>
      simp only [w_is_kind, fs_is_tuple_of, fs_is_list, seqD_t, gIsi_iff hjs (show "tuple" ∈ kinds by simp), h, hd, hl, hjs, g1, wAugOwn, wEnumL, wTru, wSlA, gCatA, gLtT, gLeT, wFrz, wChain3, wAttr, wMkF, wEnumT, wRevT, wDict0, wDict1, numD3, Nat.reduceAdd, atI0, atI1, atI2, atI3, atI4, ixN51, ixN52, ixN53, List.length_map, wNever, scal, V.int.injEq, V.str.injEq, V.bl.injEq, wSq, wNext, wBreak, wCont, wDrop, wRet, wRetN, wIfS, wAsg, wPar, wLstOwn, wAppend, wSetOwn, wIxOwn, wPeek, wRetOwn, wRetFr, wFor, wB, wNot, wAnd, wOr, wAndV, wOrV, wNotV, wIf, wChain, wNil, wCons, wCB, wTup, wLst, wNoPart, wPart, wSlT, wSlL, wSeq, wRng1, wRng2, wZip, wName, wNilT, wConsT, wTupT, wYes, wNeg, wVar, wC, wOp, wcNil, wcCons, wcOwn, wCall, wCallOwn, slots, cellsOf, OwnArgs, putBack, g2I, g2IC, gLen, gAbs, gGcd, gInt1, gTupleOf, gListOf, gIx, gCatT, gCat, gEq, gNe, gIsN, gNotN, scD, seqD_t, seqD_l, seqD_f, isNonD, List.nodup_cons, List.mem_cons, List.not_mem_nil, or_false, not_false_eq_true, Nat.reduceEqDiff, L3.Keeps, ends, wipeD, List.replicate, List.cons_append, List.nil_append, List.append_nil, List.getElem?_cons_zero, List.getElem?_cons_succ, List.set_cons_zero, List.set_cons_succ, List.getD_cons_zero, List.getD_cons_succ, List.length_cons, List.length_nil, List.nodup_nil, Option.some.injEq, Cell.dat.injEq, Cell.own.injEq, Cont.lst.injEq, D.bl.injEq, D.int.injEq, D.str.injEq, D.tup.injEq, D.lst.injEq, Arg.d.injEq, List.cons.injEq, exists_and_left, exists_and_right, exists_eq_left', exists_eq_left, exists_eq_right, exists_eq_right', exists_eq, exists_eq', and_true, true_and, and_assoc, and_self, exists_const, reduceCtorEq]
      cases js with
      | tup js =>
        have hn : js.length ≤ 900 := hj
        cases g2 : js.isEmpty with
        | true =>
          have e1 : isKi ss (.tup [l, .tup js]) = false := by simp [isKi, g2]
          rw [e1] at hq
          simp only [isiD, truD, g2, wAugOwn, wEnumL, wTru, wSlA, gCatA, gLtT, gLeT, wFrz, wChain3, wAttr, wMkF, wEnumT, wRevT, wDict0, wDict1, numD3, Nat.reduceAdd, atI0, atI1, atI2, atI3, atI4, ixN51, ixN52, ixN53, List.length_map, wNever, scal, V.int.injEq, V.str.injEq, V.bl.injEq, wSq, wNext, wBreak, wCont, wDrop, wRet, wRetN, wIfS, wAsg, wPar, wLstOwn, wAppend, wSetOwn, wIxOwn, wPeek, wRetOwn, wRetFr, wFor, wB, wNot, wAnd, wOr, wAndV, wOrV, wNotV, wIf, wChain, wNil, wCons, wCB, wTup, wLst, wNoPart, wPart, wSlT, wSlL, wSeq, wRng1, wRng2, wZip, wName, wNilT, wConsT, wTupT, wYes, wNeg, wVar, wC, wOp, wcNil, wcCons, wcOwn, wCall, wCallOwn, slots, cellsOf, OwnArgs, putBack, g2I, g2IC, gLen, gAbs, gGcd, gInt1, gTupleOf, gListOf, gIx, gCatT, gCat, gEq, gNe, gIsN, gNotN, scD, seqD_t, seqD_l, seqD_f, isNonD, List.nodup_cons, List.mem_cons, List.not_mem_nil, or_false, not_false_eq_true, Nat.reduceEqDiff, L3.Keeps, ends, wipeD, List.replicate, List.cons_append, List.nil_append, List.append_nil, List.getElem?_cons_zero, List.getElem?_cons_succ, List.set_cons_zero, List.set_cons_succ, List.getD_cons_zero, List.getD_cons_succ, List.length_cons, List.length_nil, List.nodup_nil, Option.some.injEq, Cell.dat.injEq, Cell.own.injEq, Cont.lst.injEq, D.bl.injEq, D.int.injEq, D.str.injEq, D.tup.injEq, D.lst.injEq, Arg.d.injEq, List.cons.injEq, exists_and_left, exists_and_right, exists_eq_left', exists_eq_left, exists_eq_right, exists_eq_right', exists_eq, exists_eq', and_true, true_and, and_assoc, and_self, exists_const, reduceCtorEq]
          simp
          exact hq
        | false =>
          have e1 : isKi ss (.tup [l, .tup js]) = (js.all (isJo ss) && ascJ js) := by simp [isKi, g1, g2]
          rw [e1] at hq
          simp only [isiD, truD, g2, wAugOwn, wEnumL, wTru, wSlA, gCatA, gLtT, gLeT, wFrz, wChain3, wAttr, wMkF, wEnumT, wRevT, wDict0, wDict1, numD3, Nat.reduceAdd, atI0, atI1, atI2, atI3, atI4, ixN51, ixN52, ixN53, List.length_map, wNever, scal, V.int.injEq, V.str.injEq, V.bl.injEq, wSq, wNext, wBreak, wCont, wDrop, wRet, wRetN, wIfS, wAsg, wPar, wLstOwn, wAppend, wSetOwn, wIxOwn, wPeek, wRetOwn, wRetFr, wFor, wB, wNot, wAnd, wOr, wAndV, wOrV, wNotV, wIf, wChain, wNil, wCons, wCB, wTup, wLst, wNoPart, wPart, wSlT, wSlL, wSeq, wRng1, wRng2, wZip, wName, wNilT, wConsT, wTupT, wYes, wNeg, wVar, wC, wOp, wcNil, wcCons, wcOwn, wCall, wCallOwn, slots, cellsOf, OwnArgs, putBack, g2I, g2IC, gLen, gAbs, gGcd, gInt1, gTupleOf, gListOf, gIx, gCatT, gCat, gEq, gNe, gIsN, gNotN, scD, seqD_t, seqD_l, seqD_f, isNonD, List.nodup_cons, List.mem_cons, List.not_mem_nil, or_false, not_false_eq_true, Nat.reduceEqDiff, L3.Keeps, ends, wipeD, List.replicate, List.cons_append, List.nil_append, List.append_nil, List.getElem?_cons_zero, List.getElem?_cons_succ, List.set_cons_zero, List.set_cons_succ, List.getD_cons_zero, List.getD_cons_succ, List.length_cons, List.length_nil, List.nodup_nil, Option.some.injEq, Cell.dat.injEq, Cell.own.injEq, Cont.lst.injEq, D.bl.injEq, D.int.injEq, D.str.injEq, D.tup.injEq, D.lst.injEq, Arg.d.injEq, List.cons.injEq, exists_and_left, exists_and_right, exists_eq_left', exists_eq_left, exists_eq_right, exists_eq_right', exists_eq, exists_eq', and_true, true_and, and_assoc, and_self, exists_const, reduceCtorEq]
          simp
          refine c1_is_kind_ok hs hjs (by omega) ?_
          refine gAll_map ?_
          cases ht : js.all (isJo ss) with
          | false =>
            rw [ht] at hq
            simp only [wAugOwn, wEnumL, wTru, wSlA, gCatA, gLtT, gLeT, wFrz, wChain3, wAttr, wMkF, wEnumT, wRevT, wDict0, wDict1, numD3, Nat.reduceAdd, atI0, atI1, atI2, atI3, atI4, ixN51, ixN52, ixN53, List.length_map, wNever, scal, V.int.injEq, V.str.injEq, V.bl.injEq, wSq, wNext, wBreak, wCont, wDrop, wRet, wRetN, wIfS, wAsg, wPar, wLstOwn, wAppend, wSetOwn, wIxOwn, wPeek, wRetOwn, wRetFr, wFor, wB, wNot, wAnd, wOr, wAndV, wOrV, wNotV, wIf, wChain, wNil, wCons, wCB, wTup, wLst, wNoPart, wPart, wSlT, wSlL, wSeq, wRng1, wRng2, wZip, wName, wNilT, wConsT, wTupT, wYes, wNeg, wVar, wC, wOp, wcNil, wcCons, wcOwn, wCall, wCallOwn, slots, cellsOf, OwnArgs, putBack, g2I, g2IC, gLen, gAbs, gGcd, gInt1, gTupleOf, gListOf, gIx, gCatT, gCat, gEq, gNe, gIsN, gNotN, scD, seqD_t, seqD_l, seqD_f, isNonD, List.nodup_cons, List.mem_cons, List.not_mem_nil, or_false, not_false_eq_true, Nat.reduceEqDiff, L3.Keeps, ends, wipeD, List.replicate, List.cons_append, List.nil_append, List.append_nil, List.getElem?_cons_zero, List.getElem?_cons_succ, List.set_cons_zero, List.set_cons_succ, List.getD_cons_zero, List.getD_cons_succ, List.length_cons, List.length_nil, List.nodup_nil, Option.some.injEq, Cell.dat.injEq, Cell.own.injEq, Cont.lst.injEq, D.bl.injEq, D.int.injEq, D.str.injEq, D.tup.injEq, D.lst.injEq, Arg.d.injEq, List.cons.injEq, exists_and_left, exists_and_right, exists_eq_left', exists_eq_left, exists_eq_right, exists_eq_right', exists_eq, exists_eq', and_true, true_and, and_assoc, and_self, exists_const, reduceCtorEq]
            simpa using hq
          | true =>
            rw [ht] at hq
            simp only [fs_ascends, wAugOwn, wEnumL, wTru, wSlA, gCatA, gLtT, gLeT, wFrz, wChain3, wAttr, wMkF, wEnumT, wRevT, wDict0, wDict1, numD3, Nat.reduceAdd, atI0, atI1, atI2, atI3, atI4, ixN51, ixN52, ixN53, List.length_map, wNever, scal, V.int.injEq, V.str.injEq, V.bl.injEq, wSq, wNext, wBreak, wCont, wDrop, wRet, wRetN, wIfS, wAsg, wPar, wLstOwn, wAppend, wSetOwn, wIxOwn, wPeek, wRetOwn, wRetFr, wFor, wB, wNot, wAnd, wOr, wAndV, wOrV, wNotV, wIf, wChain, wNil, wCons, wCB, wTup, wLst, wNoPart, wPart, wSlT, wSlL, wSeq, wRng1, wRng2, wZip, wName, wNilT, wConsT, wTupT, wYes, wNeg, wVar, wC, wOp, wcNil, wcCons, wcOwn, wCall, wCallOwn, slots, cellsOf, OwnArgs, putBack, g2I, g2IC, gLen, gAbs, gGcd, gInt1, gTupleOf, gListOf, gIx, gCatT, gCat, gEq, gNe, gIsN, gNotN, scD, seqD_t, seqD_l, seqD_f, isNonD, List.nodup_cons, List.mem_cons, List.not_mem_nil, or_false, not_false_eq_true, Nat.reduceEqDiff, L3.Keeps, ends, wipeD, List.replicate, List.cons_append, List.nil_append, List.append_nil, List.getElem?_cons_zero, List.getElem?_cons_succ, List.set_cons_zero, List.set_cons_succ, List.getD_cons_zero, List.getD_cons_succ, List.length_cons, List.length_nil, List.nodup_nil, Option.some.injEq, Cell.dat.injEq, Cell.own.injEq, Cont.lst.injEq, D.bl.injEq, D.int.injEq, D.str.injEq, D.tup.injEq, D.lst.injEq, Arg.d.injEq, List.cons.injEq, exists_and_left, exists_and_right, exists_eq_left', exists_eq_left, exists_eq_right, exists_eq_right', exists_eq, exists_eq', and_true, true_and, and_assoc, and_self, exists_const, reduceCtorEq]
            simp
            refine ⟨hn, fun d hm => ?_, hq⟩
            obtain ⟨a, b, rfl, _⟩ := jo_pair (List.all_eq_true.mp ht d hm)
            exact ⟨a, b, rfl⟩
      | _ =>
        simp only [isiD, wAugOwn, wEnumL, wTru, wSlA, gCatA, gLtT, gLeT, wFrz, wChain3, wAttr, wMkF, wEnumT, wRevT, wDict0, wDict1, numD3, Nat.reduceAdd, atI0, atI1, atI2, atI3, atI4, ixN51, ixN52, ixN53, List.length_map, wNever, scal, V.int.injEq, V.str.injEq, V.bl.injEq, wSq, wNext, wBreak, wCont, wDrop, wRet, wRetN, wIfS, wAsg, wPar, wLstOwn, wAppend, wSetOwn, wIxOwn, wPeek, wRetOwn, wRetFr, wFor, wB, wNot, wAnd, wOr, wAndV, wOrV, wNotV, wIf, wChain, wNil, wCons, wCB, wTup, wLst, wNoPart, wPart, wSlT, wSlL, wSeq, wRng1, wRng2, wZip, wName, wNilT, wConsT, wTupT, wYes, wNeg, wVar, wC, wOp, wcNil, wcCons, wcOwn, wCall, wCallOwn, slots, cellsOf, OwnArgs, putBack, g2I, g2IC, gLen, gAbs, gGcd, gInt1, gTupleOf, gListOf, gIx, gCatT, gCat, gEq, gNe, gIsN, gNotN, scD, seqD_t, seqD_l, seqD_f, isNonD, List.nodup_cons, List.mem_cons, List.not_mem_nil, or_false, not_false_eq_true, Nat.reduceEqDiff, L3.Keeps, ends, wipeD, List.replicate, List.cons_append, List.nil_append, List.append_nil, List.getElem?_cons_zero, List.getElem?_cons_succ, List.set_cons_zero, List.set_cons_succ, List.getD_cons_zero, List.getD_cons_succ, List.length_cons, List.length_nil, List.nodup_nil, Option.some.injEq, Cell.dat.injEq, Cell.own.injEq, Cont.lst.injEq, D.bl.injEq, D.int.injEq, D.str.injEq, D.tup.injEq, D.lst.injEq, Arg.d.injEq, List.cons.injEq, exists_and_left, exists_and_right, exists_eq_left', exists_eq_left, exists_eq_right, exists_eq_right', exists_eq, exists_eq', and_true, true_and, and_assoc, and_self, exists_const, reduceCtorEq]
        simp
        exact hq
theorem ok_is_kind (T : Txt K mg) : FnOk P w K mg base (L2.CX P w) 5 T.f_is_kind T.fd_is_kind ["sorts", "thing"] (spOf K 2 (fs_is_kind K)) := by
  refine def_ok T.F_is_kind sc_is_kind (wb := w_is_kind K) pure_is_kind ?_
  intro cdv A outer s H E hr tk
  exact ⟨_, (pss_cons (ps_if (pt_not (pt_val (pe_callS (ok_is_tuple_of T) (hr.mono (by decide)) rfl T.g_is_tuple_of T.k_is_tuple_of T.b_is_tuple_of (fun σ => passAt tk σ) (pa_cons pe_int (pa_cons pe_int (pa_cons (pv 1) pa_nil))))))
        (pss_one (ps_ret pe_bl))
        pss_nil)
      (pss_cons (ps_asg (pv 1) (pg_tup (by rfl) (pgs_cons (pg_name (i := 2) sc_is_kind.nd rfl (by first | exact Or.inl rfl | exact Or.inr rfl)) (pgs_cons (pg_name (i := 3) sc_is_kind.nd rfl (by first | exact Or.inl rfl | exact Or.inr rfl)) pgs_nil))))
      (pss_cons (ps_if (PW.pt (pw_or (pt_not (pt_val (pe_callS (ok_is_list T) (hr.mono (by decide)) rfl T.g_is_list T.k_is_list T.b_is_list (fun σ => passAt tk σ) (pa_cons (pv 2) pa_nil)))) (pw_or (pt_not (pt_val (pe_callB call_isi (by rfl) T.z_isinstance (by decide +kernel) (pa_cons (pv 3) (pa_cons (pe_bltn (v := .ty "tuple") (by rfl) T.z_tuple (by decide +kernel) rfl) pa_nil))))) (pw_or1 (pt_not (pt_truth (pv 3) (fun _ => rfl)))))))
        (pss_one (ps_ret pe_bl))
        pss_nil)
      (pss_one (ps_ret (pe_and (pe_callB (cr_all (by rfl)) (by rfl) T.z_all (by decide +kernel) (pa_cons (pe_lc (own := [("join", 4)]) (g := (gName 4)) (tt := tYes) (te := (tCallS (spOf K 2 (fs_is_join K)) (L2.WE W0) (tCons (tVar 0) (tCons (tVar 4) tNil)))) rfl sc_is_kind.nd (pi_seq (pv 3)) (blkOk_by (N := ["sorts", "thing", "thresholds", "joins", "join"]) (sc := defScope s_is_kind) (by decide +kernel)) (fun _ _ _ _ _ => (pg_name (i := 4) sc_is_kind.nd rfl (by first | exact Or.inl rfl | exact Or.inr rfl))) (fun _ _ _ _ _ => pts_nil) (fun _ _ _ _ _ => (pe_callS (ok_is_join T) (hr.mono (by decide)) rfl T.g_is_join T.k_is_join T.b_is_join (fun σ => passAt L2.takes0 σ) (pa_cons (pv 0) (pa_cons (pv 4) pa_nil))))) pa_nil)) (pe_one (pe_callS (ok_ascends T) (hr.mono (by decide)) rfl T.g_ascends T.k_ascends T.b_ascends (fun σ => passAt tk σ) (pa_cons (pv 3) pa_nil))))))))),
    (ds_seq (ds_if (dt_not (dt_B (de_call (n := 3) (fs := fs_is_tuple_of K) (dac_cons de_int (dac_cons de_int (dac_cons (de_var 1) dac_nil)))))) (ds_ret de_bl) ds_nil)
      (ds_seq (ds_asg (de_var 1) (dg_tup (n := 2) (dgs_cons (dg_name 2) (dgs_cons (dg_name 3) dgs_nil))))
      (ds_seq (ds_if (dt_or (dt_not (dt_B (de_call (n := 1) (fs := fs_is_list K) (dac_cons (de_var 2) dac_nil)))) (dt_or (dt_not (dt_B (de_cb o_isi (da_cons (de_var 3) (da_cons de_ty da_nil))))) (dt_not (dt_tru (de_var 3))))) (ds_ret de_bl) ds_nil)
      (ds_ret (de_and (de_cb o_all (da_cons (de_lc (vs := [4]) (wI := (wSeq (wVar 3))) (wg := (wName 4)) (wt := wYes) (we := (wCall 2 (fs_is_join K) (wcCons (wVar 0) (wcCons (wVar 4) wcNil)))) (di_seq (de_var 3)) (dg_name 4) dt_yes (de_call (n := 2) (fs := fs_is_join K) (dac_cons (de_var 0) (dac_cons (de_var 4) dac_nil))) (by decide)) da_nil)) (de_call (n := 1) (fs := fs_ascends K) (dac_cons (de_var 3) dac_nil)))))))⟩
abbrev s_Book__init__ : Stmt := inClass (topS 37) 0
theorem sc_Book__init__ : FnScope ["self", "sorts", "kinds", "number", "kind"] ["self", "sorts", "kinds"] (defScope s_Book__init__) := ⟨rfl, rfl, rfl, by decide +kernel, rfl, by decide +kernel, by decide +kernel⟩
def l1_Book__init__ (K : PySem.W.Frag) (Z : CT) : SW := wFor (wEnumT (wCons (wVar 2) wNil)) (wTupT 2 (wConsT (wName 3) (wConsT (wName 4) wNilT))) (wIfS (wNot (wB (wCall 2 (fs_is_kind K) (wcCons (wVar 1) (wcCons (wVar 4) wcNil))))) (wRaise1 Z.C_BadBook "part" (wVar 3)) wNext)
def w_Book__init__ (K : PySem.W.Frag) (Z : CT) : SW := (wSq (wIfS (wNot (wB (wCall 1 (fs_is_sort_tuple K) (wcCons (wVar 1) wcNil)))) (wRaise1 Z.C_BadBook "part" (wC (.str "sorts"))) wNext)
  (wSq (wIfS (wNot (wB (wCall 3 (fs_is_tuple_of K) (wcCons (wC (.int 0)) (wcCons (wC (.int 5)) (wcCons (wVar 2) wcNil)))))) (wRaise1 Z.C_BadBook "part" (wC (.str "kinds"))) wNext)
  (wSq (l1_Book__init__ K Z)
  (wSq (wFld Z.C_Book 0 "sorts" (wVar 1))
  (wFld Z.C_Book 0 "kinds" (wVar 2))))))
def firstBadP (P : D → Bool) : Nat → List D → Option Nat
  | _, [] => none
  | k, d :: r => if P d = true then firstBadP P (k + 1) r else some k
def badBook (ss ks : D) : Option D :=
  if isSs ss = false then some (.str "sorts") else if isTupOf 0 5 ks = false then some (.str "kinds") else
  match ss, ks with
  | .tup us, .tup ds => (firstBadP (isKi us) 0 ds).map fun i => .int (i : Nat)
  | _, _ => none
/-- kinds with joins that are not long -/
def KsShort : D → Prop | .tup ds => ∀ d ∈ ds, JsShort d | _ => True
def fs_Book__init__ (K : PySem.W.Frag) (Z : CT) : FS := fun cs q e => ∃ x dx ws ps, cs = [.own x (.obj Z.C_Book dx []), .dat ws, .dat ps] ∧ OkD K ws ∧ OkD K ps ∧ KsShort ps ∧
  (∀ part, badBook ws ps = some part → e ⟨Z.C_BadBook, [("part", part)]⟩ cs) ∧ (badBook ws ps = none → q .non [.own x (.obj Z.C_Book dx [("sorts", ws), ("kinds", ps)]), .dat ws, .dat ps])
theorem l1_Book__init___ok {Z : CT} {c0 c3 c4 : Cell} {us ds : List D} {E : EndsD} (hu : ∀ d ∈ us, isSo d = true) (hd : OkD K (.tup ds)) (hj : KsShort (.tup ds)) (hb : ∀ i, firstBadP (isKi us) 0 ds = some i → ∀ c3 c4, E.ex ⟨Z.C_BadBook, [("part", .int (i : Nat))]⟩ [c0, .dat (.tup us), .dat (.tup ds), c3, c4]) (hn : firstBadP (isKi us) 0 ds = none → ∀ c3 c4, E.nx [c0, .dat (.tup us), .dat (.tup ds), c3, c4]) : l1_Book__init__ K Z E [c0, .dat (.tup us), .dat (.tup ds), c3, c4] := by
  unfold l1_Book__init__ wFor
  refine ⟨_, rfl, ds, rfl, fun i τ => (∃ c3 c4, τ = [c0, .dat (.tup us), .dat (.tup ds), c3, c4]) ∧ firstBadP (isKi us) 0 ds = firstBadP (isKi us) i (ds.drop i), ⟨⟨_, _, rfl⟩, rfl⟩, ?_, ?_⟩
  · rintro i d τ2 hi ⟨⟨c3, c4, rfl⟩, hf⟩
    have hlt : i < ds.length := by
      have := (List.getElem?_eq_some_iff.mp hi).1
      rwa [List.length_mapIdx] at this
    rw [List.getElem?_mapIdx, List.getElem?_eq_getElem hlt] at hi
    cases hi
    have ok : OkD K ds[i] := okTup hd (List.getElem_mem hlt)
    have sj : JsShort ds[i] := hj _ (List.getElem_mem hlt)
    rw [List.drop_eq_getElem_cons hlt, firstBadP] at hf
    cases h : isKi us ds[i] with
    | false =>
      rw [h] at hf
      simp only [fs_is_kind, wRaise1, seqD_t, ok, sj, h, wAugOwn, wEnumL, wTru, wSlA, gCatA, gLtT, gLeT, wFrz, wChain3, wAttr, wMkF, wEnumT, wRevT, wDict0, wDict1, numD3, Nat.reduceAdd, atI0, atI1, atI2, atI3, atI4, ixN51, ixN52, ixN53, List.length_map, wNever, scal, V.int.injEq, V.str.injEq, V.bl.injEq, wSq, wNext, wBreak, wCont, wDrop, wRet, wRetN, wIfS, wAsg, wPar, wLstOwn, wAppend, wSetOwn, wIxOwn, wPeek, wRetOwn, wRetFr, wFor, wB, wNot, wAnd, wOr, wAndV, wOrV, wNotV, wIf, wChain, wNil, wCons, wCB, wTup, wLst, wNoPart, wPart, wSlT, wSlL, wSeq, wRng1, wRng2, wZip, wName, wNilT, wConsT, wTupT, wYes, wNeg, wVar, wC, wOp, wcNil, wcCons, wcOwn, wCall, wCallOwn, slots, cellsOf, OwnArgs, putBack, g2I, g2IC, gLen, gAbs, gGcd, gInt1, gTupleOf, gListOf, gIx, gCatT, gCat, gEq, gNe, gIsN, gNotN, scD, seqD_t, seqD_l, seqD_f, isNonD, List.nodup_cons, List.mem_cons, List.not_mem_nil, or_false, not_false_eq_true, Nat.reduceEqDiff, L3.Keeps, ends, wipeD, List.replicate, List.cons_append, List.nil_append, List.append_nil, List.getElem?_cons_zero, List.getElem?_cons_succ, List.set_cons_zero, List.set_cons_succ, List.getD_cons_zero, List.getD_cons_succ, List.length_cons, List.length_nil, List.nodup_nil, Option.some.injEq, Cell.dat.injEq, Cell.own.injEq, Cont.lst.injEq, D.bl.injEq, D.int.injEq, D.str.injEq, D.tup.injEq, D.lst.injEq, Arg.d.injEq, List.cons.injEq, exists_and_left, exists_and_right, exists_eq_left', exists_eq_left, exists_eq_right, exists_eq_right', exists_eq, exists_eq', and_true, true_and, and_assoc, and_self, exists_const, reduceCtorEq]
      simp
      exact ⟨hu, hb i hf _ _⟩
    | true =>
      rw [h] at hf
      simp only [fs_is_kind, wRaise1, seqD_t, ok, sj, h, wAugOwn, wEnumL, wTru, wSlA, gCatA, gLtT, gLeT, wFrz, wChain3, wAttr, wMkF, wEnumT, wRevT, wDict0, wDict1, numD3, Nat.reduceAdd, atI0, atI1, atI2, atI3, atI4, ixN51, ixN52, ixN53, List.length_map, wNever, scal, V.int.injEq, V.str.injEq, V.bl.injEq, wSq, wNext, wBreak, wCont, wDrop, wRet, wRetN, wIfS, wAsg, wPar, wLstOwn, wAppend, wSetOwn, wIxOwn, wPeek, wRetOwn, wRetFr, wFor, wB, wNot, wAnd, wOr, wAndV, wOrV, wNotV, wIf, wChain, wNil, wCons, wCB, wTup, wLst, wNoPart, wPart, wSlT, wSlL, wSeq, wRng1, wRng2, wZip, wName, wNilT, wConsT, wTupT, wYes, wNeg, wVar, wC, wOp, wcNil, wcCons, wcOwn, wCall, wCallOwn, slots, cellsOf, OwnArgs, putBack, g2I, g2IC, gLen, gAbs, gGcd, gInt1, gTupleOf, gListOf, gIx, gCatT, gCat, gEq, gNe, gIsN, gNotN, scD, seqD_t, seqD_l, seqD_f, isNonD, List.nodup_cons, List.mem_cons, List.not_mem_nil, or_false, not_false_eq_true, Nat.reduceEqDiff, L3.Keeps, ends, wipeD, List.replicate, List.cons_append, List.nil_append, List.append_nil, List.getElem?_cons_zero, List.getElem?_cons_succ, List.set_cons_zero, List.set_cons_succ, List.getD_cons_zero, List.getD_cons_succ, List.length_cons, List.length_nil, List.nodup_nil, Option.some.injEq, Cell.dat.injEq, Cell.own.injEq, Cont.lst.injEq, D.bl.injEq, D.int.injEq, D.str.injEq, D.tup.injEq, D.lst.injEq, Arg.d.injEq, List.cons.injEq, exists_and_left, exists_and_right, exists_eq_left', exists_eq_left, exists_eq_right, exists_eq_right', exists_eq, exists_eq', and_true, true_and, and_assoc, and_self, exists_const, reduceCtorEq]
      simp
      exact ⟨hu, hf⟩
  · rintro τ2 ⟨⟨c3, c4, rfl⟩, hf⟩
    rw [List.length_mapIdx, List.drop_length] at hf
    exact hn hf _ _
theorem pure_Book__init__ {Z : CT} : PureD 3 2 (fs_Book__init__ K Z) (w_Book__init__ K Z) := by
  rintro cs q e - ⟨x, dx, ws, ps, rfl, h1, h2, hj, hb, hn⟩
  cases g1 : isSs ws with
  | false =>
    simp only [badBook, g1, if_true] at hb
    simp only [w_Book__init__, fs_is_sort_tuple, wRaise1, h1, g1, wAugOwn, wEnumL, wTru, wSlA, gCatA, gLtT, gLeT, wFrz, wChain3, wAttr, wMkF, wEnumT, wRevT, wDict0, wDict1, numD3, Nat.reduceAdd, atI0, atI1, atI2, atI3, atI4, ixN51, ixN52, ixN53, List.length_map, wNever, scal, V.int.injEq, V.str.injEq, V.bl.injEq, wSq, wNext, wBreak, wCont, wDrop, wRet, wRetN, wIfS, wAsg, wPar, wLstOwn, wAppend, wSetOwn, wIxOwn, wPeek, wRetOwn, wRetFr, wFor, wB, wNot, wAnd, wOr, wAndV, wOrV, wNotV, wIf, wChain, wNil, wCons, wCB, wTup, wLst, wNoPart, wPart, wSlT, wSlL, wSeq, wRng1, wRng2, wZip, wName, wNilT, wConsT, wTupT, wYes, wNeg, wVar, wC, wOp, wcNil, wcCons, wcOwn, wCall, wCallOwn, slots, cellsOf, OwnArgs, putBack, g2I, g2IC, gLen, gAbs, gGcd, gInt1, gTupleOf, gListOf, gIx, gCatT, gCat, gEq, gNe, gIsN, gNotN, scD, seqD_t, seqD_l, seqD_f, isNonD, List.nodup_cons, List.mem_cons, List.not_mem_nil, or_false, not_false_eq_true, Nat.reduceEqDiff, L3.Keeps, ends, wipeD, List.replicate, List.cons_append, List.nil_append, List.append_nil, List.getElem?_cons_zero, List.getElem?_cons_succ, List.set_cons_zero, List.set_cons_succ, List.getD_cons_zero, List.getD_cons_succ, List.length_cons, List.length_nil, List.nodup_nil, Option.some.injEq, Cell.dat.injEq, Cell.own.injEq, Cont.lst.injEq, D.bl.injEq, D.int.injEq, D.str.injEq, D.tup.injEq, D.lst.injEq, Arg.d.injEq, List.cons.injEq, exists_and_left, exists_and_right, exists_eq_left', exists_eq_left, exists_eq_right, exists_eq_right', exists_eq, exists_eq', and_true, true_and, and_assoc, and_self, exists_const, reduceCtorEq]
    simp
    exact hb _ rfl
  | true =>
    cases g2 : isTupOf 0 5 ps with
    | false =>
      simp only [badBook, g1, g2, if_true, Bool.true_eq_false, if_false] at hb
      simp only [w_Book__init__, fs_is_sort_tuple, fs_is_tuple_of, wRaise1, h1, h2, g1, g2, wAugOwn, wEnumL, wTru, wSlA, gCatA, gLtT, gLeT, wFrz, wChain3, wAttr, wMkF, wEnumT, wRevT, wDict0, wDict1, numD3, Nat.reduceAdd, atI0, atI1, atI2, atI3, atI4, ixN51, ixN52, ixN53, List.length_map, wNever, scal, V.int.injEq, V.str.injEq, V.bl.injEq, wSq, wNext, wBreak, wCont, wDrop, wRet, wRetN, wIfS, wAsg, wPar, wLstOwn, wAppend, wSetOwn, wIxOwn, wPeek, wRetOwn, wRetFr, wFor, wB, wNot, wAnd, wOr, wAndV, wOrV, wNotV, wIf, wChain, wNil, wCons, wCB, wTup, wLst, wNoPart, wPart, wSlT, wSlL, wSeq, wRng1, wRng2, wZip, wName, wNilT, wConsT, wTupT, wYes, wNeg, wVar, wC, wOp, wcNil, wcCons, wcOwn, wCall, wCallOwn, slots, cellsOf, OwnArgs, putBack, g2I, g2IC, gLen, gAbs, gGcd, gInt1, gTupleOf, gListOf, gIx, gCatT, gCat, gEq, gNe, gIsN, gNotN, scD, seqD_t, seqD_l, seqD_f, isNonD, List.nodup_cons, List.mem_cons, List.not_mem_nil, or_false, not_false_eq_true, Nat.reduceEqDiff, L3.Keeps, ends, wipeD, List.replicate, List.cons_append, List.nil_append, List.append_nil, List.getElem?_cons_zero, List.getElem?_cons_succ, List.set_cons_zero, List.set_cons_succ, List.getD_cons_zero, List.getD_cons_succ, List.length_cons, List.length_nil, List.nodup_nil, Option.some.injEq, Cell.dat.injEq, Cell.own.injEq, Cont.lst.injEq, D.bl.injEq, D.int.injEq, D.str.injEq, D.tup.injEq, D.lst.injEq, Arg.d.injEq, List.cons.injEq, exists_and_left, exists_and_right, exists_eq_left', exists_eq_left, exists_eq_right, exists_eq_right', exists_eq, exists_eq', and_true, true_and, and_assoc, and_self, exists_const, reduceCtorEq]
      simp
      exact hb _ rfl
    | true =>
      obtain ⟨us, rfl, u1, u4, us1, us2⟩ := ss_shape g1
      obtain ⟨ds, rfl⟩ : ∃ us, ps = .tup us := by cases ps <;> first | exact ⟨_, rfl⟩ | cases g2
      simp only [badBook, g1, g2, Bool.true_eq_false, if_false, Option.map_eq_some_iff, Option.map_eq_none_iff] at hb hn
      simp only [w_Book__init__, fs_is_sort_tuple, fs_is_tuple_of, wRaise1, h1, h2, g1, g2, wAugOwn, wEnumL, wTru, wSlA, gCatA, gLtT, gLeT, wFrz, wChain3, wAttr, wMkF, wEnumT, wRevT, wDict0, wDict1, numD3, Nat.reduceAdd, atI0, atI1, atI2, atI3, atI4, ixN51, ixN52, ixN53, List.length_map, wNever, scal, V.int.injEq, V.str.injEq, V.bl.injEq, wSq, wNext, wBreak, wCont, wDrop, wRet, wRetN, wIfS, wAsg, wPar, wLstOwn, wAppend, wSetOwn, wIxOwn, wPeek, wRetOwn, wRetFr, wFor, wB, wNot, wAnd, wOr, wAndV, wOrV, wNotV, wIf, wChain, wNil, wCons, wCB, wTup, wLst, wNoPart, wPart, wSlT, wSlL, wSeq, wRng1, wRng2, wZip, wName, wNilT, wConsT, wTupT, wYes, wNeg, wVar, wC, wOp, wcNil, wcCons, wcOwn, wCall, wCallOwn, slots, cellsOf, OwnArgs, putBack, g2I, g2IC, gLen, gAbs, gGcd, gInt1, gTupleOf, gListOf, gIx, gCatT, gCat, gEq, gNe, gIsN, gNotN, scD, seqD_t, seqD_l, seqD_f, isNonD, List.nodup_cons, List.mem_cons, List.not_mem_nil, or_false, not_false_eq_true, Nat.reduceEqDiff, L3.Keeps, ends, wipeD, List.replicate, List.cons_append, List.nil_append, List.append_nil, List.getElem?_cons_zero, List.getElem?_cons_succ, List.set_cons_zero, List.set_cons_succ, List.getD_cons_zero, List.getD_cons_succ, List.length_cons, List.length_nil, List.nodup_nil, Option.some.injEq, Cell.dat.injEq, Cell.own.injEq, Cont.lst.injEq, D.bl.injEq, D.int.injEq, D.str.injEq, D.tup.injEq, D.lst.injEq, Arg.d.injEq, List.cons.injEq, exists_and_left, exists_and_right, exists_eq_left', exists_eq_left, exists_eq_right, exists_eq_right', exists_eq, exists_eq', and_true, true_and, and_assoc, and_self, exists_const, reduceCtorEq]
      simp
      refine l1_Book__init___ok us1 h2 hj (fun i hi c3 c4 => ?_) fun h c3 c4 => ?_
      · simp only [wAugOwn, wEnumL, wTru, wSlA, gCatA, gLtT, gLeT, wFrz, wChain3, wAttr, wMkF, wEnumT, wRevT, wDict0, wDict1, numD3, Nat.reduceAdd, atI0, atI1, atI2, atI3, atI4, ixN51, ixN52, ixN53, List.length_map, wNever, scal, V.int.injEq, V.str.injEq, V.bl.injEq, wSq, wNext, wBreak, wCont, wDrop, wRet, wRetN, wIfS, wAsg, wPar, wLstOwn, wAppend, wSetOwn, wIxOwn, wPeek, wRetOwn, wRetFr, wFor, wB, wNot, wAnd, wOr, wAndV, wOrV, wNotV, wIf, wChain, wNil, wCons, wCB, wTup, wLst, wNoPart, wPart, wSlT, wSlL, wSeq, wRng1, wRng2, wZip, wName, wNilT, wConsT, wTupT, wYes, wNeg, wVar, wC, wOp, wcNil, wcCons, wcOwn, wCall, wCallOwn, slots, cellsOf, OwnArgs, putBack, g2I, g2IC, gLen, gAbs, gGcd, gInt1, gTupleOf, gListOf, gIx, gCatT, gCat, gEq, gNe, gIsN, gNotN, scD, seqD_t, seqD_l, seqD_f, isNonD, List.nodup_cons, List.mem_cons, List.not_mem_nil, or_false, not_false_eq_true, Nat.reduceEqDiff, L3.Keeps, ends, wipeD, List.replicate, List.cons_append, List.nil_append, List.append_nil, List.getElem?_cons_zero, List.getElem?_cons_succ, List.set_cons_zero, List.set_cons_succ, List.getD_cons_zero, List.getD_cons_succ, List.length_cons, List.length_nil, List.nodup_nil, Option.some.injEq, Cell.dat.injEq, Cell.own.injEq, Cont.lst.injEq, D.bl.injEq, D.int.injEq, D.str.injEq, D.tup.injEq, D.lst.injEq, Arg.d.injEq, List.cons.injEq, exists_and_left, exists_and_right, exists_eq_left', exists_eq_left, exists_eq_right, exists_eq_right', exists_eq, exists_eq', and_true, true_and, and_assoc, and_self, exists_const, reduceCtorEq]
        exact hb _ ⟨i, hi, rfl⟩
      · have e : putD (Str.ofString "kinds") (D.tup ds) [(Str.ofString "sorts", D.tup us)] = [(Str.ofString "sorts", D.tup us), (Str.ofString "kinds", D.tup ds)] := by
          unfold putD
          rw [if_neg (by decide +kernel)]
          rfl
        simp only [wFld, wAugOwn, wEnumL, wTru, wSlA, gCatA, gLtT, gLeT, wFrz, wChain3, wAttr, wMkF, wEnumT, wRevT, wDict0, wDict1, numD3, Nat.reduceAdd, atI0, atI1, atI2, atI3, atI4, ixN51, ixN52, ixN53, List.length_map, wNever, scal, V.int.injEq, V.str.injEq, V.bl.injEq, wSq, wNext, wBreak, wCont, wDrop, wRet, wRetN, wIfS, wAsg, wPar, wLstOwn, wAppend, wSetOwn, wIxOwn, wPeek, wRetOwn, wRetFr, wFor, wB, wNot, wAnd, wOr, wAndV, wOrV, wNotV, wIf, wChain, wNil, wCons, wCB, wTup, wLst, wNoPart, wPart, wSlT, wSlL, wSeq, wRng1, wRng2, wZip, wName, wNilT, wConsT, wTupT, wYes, wNeg, wVar, wC, wOp, wcNil, wcCons, wcOwn, wCall, wCallOwn, slots, cellsOf, OwnArgs, putBack, g2I, g2IC, gLen, gAbs, gGcd, gInt1, gTupleOf, gListOf, gIx, gCatT, gCat, gEq, gNe, gIsN, gNotN, scD, seqD_t, seqD_l, seqD_f, isNonD, List.nodup_cons, List.mem_cons, List.not_mem_nil, or_false, not_false_eq_true, Nat.reduceEqDiff, L3.Keeps, ends, wipeD, List.replicate, List.cons_append, List.nil_append, List.append_nil, List.getElem?_cons_zero, List.getElem?_cons_succ, List.set_cons_zero, List.set_cons_succ, List.getD_cons_zero, List.getD_cons_succ, List.length_cons, List.length_nil, List.nodup_nil, Option.some.injEq, Cell.dat.injEq, Cell.own.injEq, Cont.lst.injEq, D.bl.injEq, D.int.injEq, D.str.injEq, D.tup.injEq, D.lst.injEq, Arg.d.injEq, List.cons.injEq, exists_and_left, exists_and_right, exists_eq_left', exists_eq_left, exists_eq_right, exists_eq_right', exists_eq, exists_eq', and_true, true_and, and_assoc, and_self, exists_const, reduceCtorEq]
        simp
        exact ⟨dx, [], ⟨rfl, rfl⟩, (show (0 : Nat) < 1000 by decide), dx, [(Str.ofString "sorts", D.tup us)], ⟨rfl, rfl⟩, (show (1 : Nat) < 1000 by decide), by rw [e]; exact hn h⟩
theorem ok_Book__init__ (T : Txt K mg) : FnOk P w K mg base (L2.CX P w) 6 T.f_Book__init__ T.fd_Book__init__ ["self", "sorts", "kinds"] (spOf K 3 (fs_Book__init__ K T.Z)) := by
  refine def_ok T.F_Book__init__ sc_Book__init__ (wb := w_Book__init__ K T.Z) pure_Book__init__ ?_
  intro cdv A outer s H E hr tk
  exact ⟨_, (pss_cons (ps_if (pt_not (pt_val (pe_callS (ok_is_sort_tuple T) (hr.mono (by decide)) rfl T.g_is_sort_tuple T.k_is_sort_tuple T.b_is_sort_tuple (fun σ => passAt tk σ) (pa_cons (pv 1) pa_nil))))
        (pss_one (ps_raise rfl tk (pmk_oex T.ox_BadBook T.xi_BadBook T.xt_BadBook (okx_BadBook T) (hr.mono (by decide : 2 ≤ _)) T.bx_BadBook .nil passL rfl T.gx_BadBook (pa_cons pe_str pa_nil))))
        pss_nil)
      (pss_cons (ps_if (pt_not (pt_val (pe_callS (ok_is_tuple_of T) (hr.mono (by decide)) rfl T.g_is_tuple_of T.k_is_tuple_of T.b_is_tuple_of (fun σ => passAt tk σ) (pa_cons pe_int (pa_cons (pe_glob (v := .int 5) rfl T.c_MOST_KINDS ⟨_, rfl⟩) (pa_cons (pv 2) pa_nil))))))
        (pss_one (ps_raise rfl tk (pmk_oex T.ox_BadBook T.xi_BadBook T.xt_BadBook (okx_BadBook T) (hr.mono (by decide : 2 ≤ _)) T.bx_BadBook .nil passL rfl T.gx_BadBook (pa_cons pe_str pa_nil))))
        pss_nil)
      (pss_cons (ps_for (passes_of rfl) rfl (pi_enumT (by rfl) T.z_enumerate (pa_cons (pv 2) pa_nil)) (pg_tup (by rfl) (pgs_cons (pg_name (i := 3) sc_Book__init__.nd rfl (by first | exact Or.inl rfl | exact Or.inr rfl)) (pgs_cons (pg_name (i := 4) sc_Book__init__.nd rfl (by first | exact Or.inl rfl | exact Or.inr rfl)) pgs_nil)))
        (pss_one (ps_if (pt_not (pt_val (pe_callS (ok_is_kind T) (hr.mono (by decide)) rfl T.g_is_kind T.k_is_kind T.b_is_kind (fun σ => passAt tk σ) (pa_cons (pv 1) (pa_cons (pv 4) pa_nil)))))
        (pss_one (ps_raise rfl tk (pmk_oex T.ox_BadBook T.xi_BadBook T.xt_BadBook (okx_BadBook T) (hr.mono (by decide : 2 ≤ _)) T.bx_BadBook .nil passL rfl T.gx_BadBook (pa_cons (pv 3) pa_nil))))
        pss_nil)))
      (pss_cons (ps_fld (pv 0) (pv 1) (by rfl))
      (pss_one (ps_fld (pv 0) (pv 2) (by rfl))))))),
    (ds_seq (ds_if (dt_not (dt_B (de_call (n := 1) (fs := fs_is_sort_tuple K) (dac_cons (de_var 1) dac_nil)))) (ds_raise1 (C := T.Z.C_BadBook) (f := "part") de_str) ds_nil)
      (ds_seq (ds_if (dt_not (dt_B (de_call (n := 3) (fs := fs_is_tuple_of K) (dac_cons de_int (dac_cons de_int (dac_cons (de_var 2) dac_nil)))))) (ds_raise1 (C := T.Z.C_BadBook) (f := "part") de_str) ds_nil)
      (ds_seq (ds_for (wI := (wEnumT (wCons (wVar 2) wNil))) (wg := (wTupT 2 (wConsT (wName 3) (wConsT (wName 4) wNilT)))) (wb := (wIfS (wNot (wB (wCall 2 (fs_is_kind K) (wcCons (wVar 1) (wcCons (wVar 4) wcNil))))) (wRaise1 T.Z.C_BadBook "part" (wVar 3)) wNext)) (di_enumT (da_cons (de_var 2) da_nil)) (dg_tup (n := 2) (dgs_cons (dg_name 3) (dgs_cons (dg_name 4) dgs_nil))) (ds_if (dt_not (dt_B (de_call (n := 2) (fs := fs_is_kind K) (dac_cons (de_var 1) (dac_cons (de_var 4) dac_nil))))) (ds_raise1 (C := T.Z.C_BadBook) (f := "part") (de_var 3)) ds_nil))
      (ds_seq (ds_fld (i := 0) T.it_Book.cl T.na_Book_sorts (de_var 1))
      (ds_fld (i := 0) T.it_Book.cl T.na_Book_kinds (de_var 2))))))⟩
abbrev s_may_join : Stmt := topS 38
theorem sc_may_join : FnScope ["book", "thresholds", "one", "other", "join", "listed", "joins"] ["book", "thresholds", "one", "other"] (defScope s_may_join) := ⟨rfl, rfl, rfl, by decide +kernel, rfl, by decide +kernel, by decide +kernel⟩
def c1_may_join (K : PySem.W.Frag) (Z : CT) : EW := wLc (wSeq (wAttr Z.C_Book "kinds" (wVar 0))) (wTupT 2 (wConsT (wName 5) (wConsT (wName 6) wNilT))) wYes (wAndV (wOp gEqD (wVar 5) (wVar 1)) (wOp gInT (wVar 4) (wVar 6))) [5, 6]
def w_may_join (K : PySem.W.Frag) (Z : CT) : SW := (wSq (wAsg (wTup (wCons (wCB gMin2 (wCons (wVar 2) (wCons (wVar 3) wNil))) (wCons (wCB gMax2 (wCons (wVar 2) (wCons (wVar 3) wNil))) wNil))) (wName 4))
  (wRet (wCB gAny (wCons (c1_may_join K Z) wNil))))
theorem book_s {ws ps : D} : ([((Str.ofString "sorts"), ws), (Str.ofString "kinds", ps)] : List (Str × D)).lookup (Str.ofString "sorts") = some ws := by simp [List.lookup]
theorem book_k {ws ps : D} : ([((Str.ofString "sorts"), ws), (Str.ofString "kinds", ps)] : List (Str × D)).lookup (Str.ofString "kinds") = some ps := by
  have : (Str.ofString "kinds" == Str.ofString "sorts") = false := by decide +kernel
  simp [List.lookup, this]
abbrev bookD (C : Addr) (ws ps : D) : D := .ins C [("sorts", ws), ("kinds", ps)]
def JnD (x y : Int) : D := .tup [.int (mnI x y), .int (mxI x y)]
def kOk (l j : D) : D → Bool | .tup [l', .tup js] => eqB l' l && inB j js | _ => false
def mayJ (ks : List D) (l : D) (x y : Int) : Bool := ks.any (kOk l (JnD x y))
theorem li_sh {d : D} (h : isLi d = true) : ShD 3 d := by
  obtain ⟨es, rfl, h1, h2, h3⟩ := li_shape h
  intro x hx
  obtain ⟨t, b, rfl, _⟩ := th_shape (h3 x hx)
  intro y hy
  have : y = .int t ∨ y = .int b := by simpa using hy
  rcases this with rfl | rfl <;> trivial
theorem jn_sh {x y : Int} : ShD 3 (JnD x y) := fun d hd => by
  have : d = .int (mnI x y) ∨ d = .int (mxI x y) := by simpa using hd
  rcases this with rfl | rfl <;> trivial
theorem ki_shape {ss : List D} {d : D} (h : isKi ss d = true) : ∃ (l : D) (js : List D), d = .tup [l, .tup js] ∧ isLi l = true ∧ ShD 3 (.tup js) := by
  cases h2 : isTupOf 2 2 d with
  | false => rw [ki_not_two h2] at h; cases h
  | true =>
    obtain ⟨l, j, rfl⟩ := tup_two h2
    cases j with
    | tup js =>
      simp only [isKi, Bool.and_eq_true] at h
      refine ⟨l, js, rfl, h.1.1, fun x hx => ?_⟩
      obtain ⟨a, b, rfl, _⟩ := jo_pair (List.all_eq_true.mp h.2.1 x hx)
      intro y hy
      have : y = .int a ∨ y = .int b := by simpa using hy
      rcases this with rfl | rfl <;> trivial
    | _ => cases h
/-- a book's sorts and kinds -/
def BookV (ss ks : List D) : Prop := (1 ≤ ss.length ∧ ss.length ≤ 4 ∧ (∀ d ∈ ss, isSo d = true) ∧ (ss.filter isSea).length ≤ 1) ∧ ks.length ≤ 5 ∧ ∀ d ∈ ks, isKi ss d = true
def fs_may_join (K : PySem.W.Frag) (Z : CT) : FS := fun cs q _ => ∃ (ss ks : List D) (l : D) (x y : Int), cs = [.dat (bookD Z.C_Book (.tup ss) (.tup ks)), .dat l, .dat (.int x), .dat (.int y)] ∧ BookV ss ks ∧ isLi l = true ∧ q (.bl (mayJ ks l x y)) cs
theorem c1_may_join_ok {Z : CT} {ss ks : List D} {l : D} {x y : Int} {c2 c3 c5 c6 : Cell} {q : D → List Cell → Prop} {e : Xn → List Cell → Prop} (hk : ∀ d ∈ ks, isKi ss d = true) (hn : ks.length ≤ 5) (hl : isLi l = true)
    (hq : q (.lst (ks.map fun d => .bl (kOk l (JnD x y) d))) [.dat (bookD Z.C_Book (.tup ss) (.tup ks)), .dat l, c2, c3, .dat (JnD x y), .any, .any]) : c1_may_join K Z [.dat (bookD Z.C_Book (.tup ss) (.tup ks)), .dat l, c2, c3, .dat (JnD x y), c5, c6] q e := by
  unfold c1_may_join wLc
  refine ⟨_, rfl, _, _, rfl, book_k, ks, rfl, lc_fm (fun d => .bl (kOk l (JnD x y) d)) (fun _ => true) (by omega) (fun d hm k1 k2 h1 _ => ?_) (by rw [filter_true]; exact hq)⟩
  obtain ⟨l', js, rfl, h2, h3⟩ := ki_shape (hk d hm)
  simp only [wAugOwn, wEnumL, wTru, wSlA, gCatA, gLtT, gLeT, wFrz, wChain3, wAttr, wMkF, wEnumT, wRevT, wDict0, wDict1, numD3, Nat.reduceAdd, atI0, atI1, atI2, atI3, atI4, ixN51, ixN52, ixN53, List.length_map, wNever, scal, V.int.injEq, V.str.injEq, V.bl.injEq, wSq, wNext, wBreak, wCont, wDrop, wRet, wRetN, wIfS, wAsg, wPar, wLstOwn, wAppend, wSetOwn, wIxOwn, wPeek, wRetOwn, wRetFr, wFor, wB, wNot, wAnd, wOr, wAndV, wOrV, wNotV, wIf, wChain, wNil, wCons, wCB, wTup, wLst, wNoPart, wPart, wSlT, wSlL, wSeq, wRng1, wRng2, wZip, wName, wNilT, wConsT, wTupT, wYes, wNeg, wVar, wC, wOp, wcNil, wcCons, wcOwn, wCall, wCallOwn, slots, cellsOf, OwnArgs, putBack, g2I, g2IC, gLen, gAbs, gGcd, gInt1, gTupleOf, gListOf, gIx, gCatT, gCat, gEq, gNe, gIsN, gNotN, scD, seqD_t, seqD_l, seqD_f, isNonD, List.nodup_cons, List.mem_cons, List.not_mem_nil, or_false, not_false_eq_true, Nat.reduceEqDiff, L3.Keeps, ends, wipeD, List.replicate, List.cons_append, List.nil_append, List.append_nil, List.getElem?_cons_zero, List.getElem?_cons_succ, List.set_cons_zero, List.set_cons_succ, List.getD_cons_zero, List.getD_cons_succ, List.length_cons, List.length_nil, List.nodup_nil, Option.some.injEq, Cell.dat.injEq, Cell.own.injEq, Cont.lst.injEq, D.bl.injEq, D.int.injEq, D.str.injEq, D.tup.injEq, D.lst.injEq, Arg.d.injEq, List.cons.injEq, exists_and_left, exists_and_right, exists_eq_left', exists_eq_left, exists_eq_right, exists_eq_right', exists_eq, exists_eq', and_true, true_and, and_assoc, and_self, exists_const, reduceCtorEq]
  simp only [true_implies]
  refine ⟨gEqD_of (li_sh h2) (li_sh hl) (by decide) (by decide) ?_, fun z => z.elim⟩
  refine ⟨_, rfl, fun z => gInT_of jn_sh h3 (by decide) (by decide) ?_, fun z => ?_⟩
  · have := h1 rfl [.dat (bookD Z.C_Book (.tup ss) (.tup ks)), .dat l, c2, c3, .dat (JnD x y), .dat l', .dat (.tup js)] rfl
    simp only [kOk, z, Bool.true_and] at this
    exact this
  · have := h1 rfl [.dat (bookD Z.C_Book (.tup ss) (.tup ks)), .dat l, c2, c3, .dat (JnD x y), .dat l', .dat (.tup js)] rfl
    simp only [kOk, z, Bool.false_and] at this
    exact this
theorem pure_may_join {Z : CT} : PureD 4 3 (fs_may_join K Z) (w_may_join K Z) := by
  rintro cs q e - ⟨ss, ks, l, x, y, rfl, ⟨_, hn, hk⟩, hl, hq⟩
  simp only [w_may_join, gMin2, gMax2, wAugOwn, wEnumL, wTru, wSlA, gCatA, gLtT, gLeT, wFrz, wChain3, wAttr, wMkF, wEnumT, wRevT, wDict0, wDict1, numD3, Nat.reduceAdd, atI0, atI1, atI2, atI3, atI4, ixN51, ixN52, ixN53, List.length_map, wNever, scal, V.int.injEq, V.str.injEq, V.bl.injEq, wSq, wNext, wBreak, wCont, wDrop, wRet, wRetN, wIfS, wAsg, wPar, wLstOwn, wAppend, wSetOwn, wIxOwn, wPeek, wRetOwn, wRetFr, wFor, wB, wNot, wAnd, wOr, wAndV, wOrV, wNotV, wIf, wChain, wNil, wCons, wCB, wTup, wLst, wNoPart, wPart, wSlT, wSlL, wSeq, wRng1, wRng2, wZip, wName, wNilT, wConsT, wTupT, wYes, wNeg, wVar, wC, wOp, wcNil, wcCons, wcOwn, wCall, wCallOwn, slots, cellsOf, OwnArgs, putBack, g2I, g2IC, gLen, gAbs, gGcd, gInt1, gTupleOf, gListOf, gIx, gCatT, gCat, gEq, gNe, gIsN, gNotN, scD, seqD_t, seqD_l, seqD_f, isNonD, List.nodup_cons, List.mem_cons, List.not_mem_nil, or_false, not_false_eq_true, Nat.reduceEqDiff, L3.Keeps, ends, wipeD, List.replicate, List.cons_append, List.nil_append, List.append_nil, List.getElem?_cons_zero, List.getElem?_cons_succ, List.set_cons_zero, List.set_cons_succ, List.getD_cons_zero, List.getD_cons_succ, List.length_cons, List.length_nil, List.nodup_nil, Option.some.injEq, Cell.dat.injEq, Cell.own.injEq, Cont.lst.injEq, D.bl.injEq, D.int.injEq, D.str.injEq, D.tup.injEq, D.lst.injEq, Arg.d.injEq, List.cons.injEq, exists_and_left, exists_and_right, exists_eq_left', exists_eq_left, exists_eq_right, exists_eq_right', exists_eq, exists_eq', and_true, true_and, and_assoc, and_self, exists_const, reduceCtorEq]
  refine ⟨by decide, c1_may_join_ok hk hn hl ?_⟩
  refine ⟨_, ks.map (kOk l (JnD x y)), .inl rfl, by simp, ?_⟩
  have : (ks.map (kOk l (JnD x y))).any id = mayJ ks l x y := by simp [mayJ]
  rw [this]
  simp only [wAugOwn, wEnumL, wTru, wSlA, gCatA, gLtT, gLeT, wFrz, wChain3, wAttr, wMkF, wEnumT, wRevT, wDict0, wDict1, numD3, Nat.reduceAdd, atI0, atI1, atI2, atI3, atI4, ixN51, ixN52, ixN53, List.length_map, wNever, scal, V.int.injEq, V.str.injEq, V.bl.injEq, wSq, wNext, wBreak, wCont, wDrop, wRet, wRetN, wIfS, wAsg, wPar, wLstOwn, wAppend, wSetOwn, wIxOwn, wPeek, wRetOwn, wRetFr, wFor, wB, wNot, wAnd, wOr, wAndV, wOrV, wNotV, wIf, wChain, wNil, wCons, wCB, wTup, wLst, wNoPart, wPart, wSlT, wSlL, wSeq, wRng1, wRng2, wZip, wName, wNilT, wConsT, wTupT, wYes, wNeg, wVar, wC, wOp, wcNil, wcCons, wcOwn, wCall, wCallOwn, slots, cellsOf, OwnArgs, putBack, g2I, g2IC, gLen, gAbs, gGcd, gInt1, gTupleOf, gListOf, gIx, gCatT, gCat, gEq, gNe, gIsN, gNotN, scD, seqD_t, seqD_l, seqD_f, isNonD, List.nodup_cons, List.mem_cons, List.not_mem_nil, or_false, not_false_eq_true, Nat.reduceEqDiff, L3.Keeps, ends, wipeD, List.replicate, List.cons_append, List.nil_append, List.append_nil, List.getElem?_cons_zero, List.getElem?_cons_succ, List.set_cons_zero, List.set_cons_succ, List.getD_cons_zero, List.getD_cons_succ, List.length_cons, List.length_nil, List.nodup_nil, Option.some.injEq, Cell.dat.injEq, Cell.own.injEq, Cont.lst.injEq, D.bl.injEq, D.int.injEq, D.str.injEq, D.tup.injEq, D.lst.injEq, Arg.d.injEq, List.cons.injEq, exists_and_left, exists_and_right, exists_eq_left', exists_eq_left, exists_eq_right, exists_eq_right', exists_eq, exists_eq', and_true, true_and, and_assoc, and_self, exists_const, reduceCtorEq]
  exact hq
theorem ok_may_join (T : Txt K mg) : FnOk P w K mg base (L2.CX P w) 1 T.f_may_join T.fd_may_join ["book", "thresholds", "one", "other"] (spOf K 4 (fs_may_join K T.Z)) := by
  refine def_ok T.F_may_join sc_may_join (wb := w_may_join K T.Z) pure_may_join ?_
  intro cdv A outer s H E hr tk
  exact ⟨_, (pss_cons (ps_set (i := 4) sc_may_join.nd rfl (by first | exact Or.inl rfl | exact Or.inr rfl) (pe_tup (pa_cons (pe_callB (call_min2 rfl) (by rfl) T.z_min (by decide +kernel) (pa_cons (pv 2) (pa_cons (pv 3) pa_nil))) (pa_cons (pe_callB (call_max2 rfl) (by rfl) T.z_max (by decide +kernel) (pa_cons (pv 2) (pa_cons (pv 3) pa_nil))) pa_nil))))
      (pss_one (ps_ret (pe_callB (cr_any (by rfl)) (by rfl) T.z_any (by decide +kernel) (pa_cons (pe_lc (own := [("listed", 5), ("joins", 6)]) (g := (gTup K 2 (gCons (gName 5) (gCons (gName 6) gNil)))) (tt := tYes) (te := (tAndV (tOp (rEqD K) (tVar 5) (tVar 1)) (tOp (rInT K) (tVar 4) (tVar 6)))) rfl sc_may_join.nd (pi_seq (pe_fld (pv 0) rfl)) (blkOk_by (N := ["book", "thresholds", "one", "other", "join", "listed", "joins"]) (sc := defScope s_may_join) (by decide +kernel)) (fun _ _ _ _ _ => (pg_tup (by rfl) (pgs_cons (pg_name (i := 5) sc_may_join.nd rfl (by first | exact Or.inl rfl | exact Or.inr rfl)) (pgs_cons (pg_name (i := 6) sc_may_join.nd rfl (by first | exact Or.inl rfl | exact Or.inr rfl)) pgs_nil)))) (fun _ _ _ _ _ => pts_nil) (fun _ _ _ _ _ => (pe_and (pe_cmpR (op_eqD hr.units) (pv 5) (pv 1) (nomark _)) (pe_one (pe_cmpR (op_inT (lt65 hr)) (pv 4) (pv 6) (by with_unfolding_all rfl)))))) pa_nil))))),
    (ds_seq (ds_asg (de_tup (da_cons (de_cb o_min2 (da_cons (de_var 2) (da_cons (de_var 3) da_nil))) (da_cons (de_cb o_max2 (da_cons (de_var 2) (da_cons (de_var 3) da_nil))) da_nil))) (dg_name 4))
      (ds_ret (de_cb o_any (da_cons (de_lc (vs := [5, 6]) (wI := (wSeq (wAttr T.Z.C_Book "kinds" (wVar 0)))) (wg := (wTupT 2 (wConsT (wName 5) (wConsT (wName 6) wNilT)))) (wt := wYes) (we := (wAndV (wOp gEqD (wVar 5) (wVar 1)) (wOp gInT (wVar 4) (wVar 6)))) (di_seq (de_fld T.it_Book.cl T.na_Book_kinds (de_var 0))) (dg_tup (n := 2) (dgs_cons (dg_name 5) (dgs_cons (dg_name 6) dgs_nil))) dt_yes (de_and (de_op o_eqD (de_var 5) (de_var 1)) (de_op o_inT (de_var 4) (de_var 6))) (by decide)) da_nil))))⟩
abbrev s_exceeds_cap : Stmt := topS 39
theorem sc_exceeds_cap : FnScope ["book", "sort", "count", "width", "cap"] ["book", "sort", "count"] (defScope s_exceeds_cap) := ⟨rfl, rfl, rfl, by decide +kernel, rfl, by decide +kernel, by decide +kernel⟩
def w_exceeds_cap (K : PySem.W.Frag) (Z : CT) : SW := (wSq (wAsg (wOp gIx (wAttr Z.C_Book "sorts" (wVar 0)) (wVar 1)) (wTupT 2 (wConsT (wName 3) (wConsT (wName 4) wNilT))))
  (wRet (wAndV (wOp gGtI (wVar 3) (wC (.int 0))) (wOp gGtI (wVar 2) (wVar 4)))))
def capAt (ss : List D) (a : Int) : Int := match ss[a.toNat]? with | some (.tup [_, .int c]) => c | _ => 0
theorem so_get {ss : List D} {a : Int} (hs : ∀ d ∈ ss, isSo d = true) (h0 : 0 ≤ a) (h1 : a < ss.length) : atI ss a = some (.tup [.int (wAt ss a), .int (capAt ss a)]) := by
  obtain ⟨k, rfl⟩ := Int.eq_ofNat_of_zero_le h0
  have hk : k < ss.length := by omega
  have e1 : ss[k]? = some ss[k] := List.getElem?_eq_getElem hk
  obtain ⟨w, c, e2, _⟩ := so_shape (hs _ (List.getElem_mem hk))
  rw [e2] at e1
  have e3 : wAt ss (k : Int) = w := by
    unfold wAt
    rw [show ((k : Int)).toNat = k by omega, e1]
  have e4 : capAt ss (k : Int) = c := by
    unfold capAt
    rw [show ((k : Int)).toNat = k by omega, e1]
  rw [e3, e4]
  exact atI_nat' e1
def exC (ss : List D) (s c : Int) : Bool := decide (0 < wAt ss s) && decide (capAt ss s < c)
def fs_exceeds_cap (K : PySem.W.Frag) (Z : CT) : FS := fun cs q _ => ∃ (ss ks : List D) (s c : Int), cs = [.dat (bookD Z.C_Book (.tup ss) (.tup ks)), .dat (.int s), .dat (.int c)] ∧ BookV ss ks ∧ 0 ≤ s ∧ s < ss.length ∧ q (.bl (exC ss s c)) cs
theorem pure_exceeds_cap {Z : CT} : PureD 3 2 (fs_exceeds_cap K Z) (w_exceeds_cap K Z) := by
  rintro cs q e - ⟨ss, ks, s, c, rfl, ⟨⟨_, _, hs, _⟩, _⟩, s0, s1, hq⟩
  have g := so_get hs s0 s1
  simp only [w_exceeds_cap, wAugOwn, wEnumL, wTru, wSlA, gCatA, gLtT, gLeT, wFrz, wChain3, wAttr, wMkF, wEnumT, wRevT, wDict0, wDict1, numD3, Nat.reduceAdd, atI0, atI1, atI2, atI3, atI4, ixN51, ixN52, ixN53, List.length_map, wNever, scal, V.int.injEq, V.str.injEq, V.bl.injEq, wSq, wNext, wBreak, wCont, wDrop, wRet, wRetN, wIfS, wAsg, wPar, wLstOwn, wAppend, wSetOwn, wIxOwn, wPeek, wRetOwn, wRetFr, wFor, wB, wNot, wAnd, wOr, wAndV, wOrV, wNotV, wIf, wChain, wNil, wCons, wCB, wTup, wLst, wNoPart, wPart, wSlT, wSlL, wSeq, wRng1, wRng2, wZip, wName, wNilT, wConsT, wTupT, wYes, wNeg, wVar, wC, wOp, wcNil, wcCons, wcOwn, wCall, wCallOwn, slots, cellsOf, OwnArgs, putBack, g2I, g2IC, gLen, gAbs, gGcd, gInt1, gTupleOf, gListOf, gIx, gCatT, gCat, gEq, gNe, gIsN, gNotN, scD, seqD_t, seqD_l, seqD_f, isNonD, List.nodup_cons, List.mem_cons, List.not_mem_nil, or_false, not_false_eq_true, Nat.reduceEqDiff, L3.Keeps, ends, wipeD, List.replicate, List.cons_append, List.nil_append, List.append_nil, List.getElem?_cons_zero, List.getElem?_cons_succ, List.set_cons_zero, List.set_cons_succ, List.getD_cons_zero, List.getD_cons_succ, List.length_cons, List.length_nil, List.nodup_nil, Option.some.injEq, Cell.dat.injEq, Cell.own.injEq, Cont.lst.injEq, D.bl.injEq, D.int.injEq, D.str.injEq, D.tup.injEq, D.lst.injEq, Arg.d.injEq, List.cons.injEq, exists_and_left, exists_and_right, exists_eq_left', exists_eq_left, exists_eq_right, exists_eq_right', exists_eq, exists_eq', and_true, true_and, and_assoc, and_self, exists_const, reduceCtorEq]
  refine ⟨_, rfl, _, book_s, _, rfl, _, g, ?_⟩
  try simp only [wAugOwn, wEnumL, wTru, wSlA, gCatA, gLtT, gLeT, wFrz, wChain3, wAttr, wMkF, wEnumT, wRevT, wDict0, wDict1, numD3, Nat.reduceAdd, atI0, atI1, atI2, atI3, atI4, ixN51, ixN52, ixN53, List.length_map, wNever, scal, V.int.injEq, V.str.injEq, V.bl.injEq, wSq, wNext, wBreak, wCont, wDrop, wRet, wRetN, wIfS, wAsg, wPar, wLstOwn, wAppend, wSetOwn, wIxOwn, wPeek, wRetOwn, wRetFr, wFor, wB, wNot, wAnd, wOr, wAndV, wOrV, wNotV, wIf, wChain, wNil, wCons, wCB, wTup, wLst, wNoPart, wPart, wSlT, wSlL, wSeq, wRng1, wRng2, wZip, wName, wNilT, wConsT, wTupT, wYes, wNeg, wVar, wC, wOp, wcNil, wcCons, wcOwn, wCall, wCallOwn, slots, cellsOf, OwnArgs, putBack, g2I, g2IC, gLen, gAbs, gGcd, gInt1, gTupleOf, gListOf, gIx, gCatT, gCat, gEq, gNe, gIsN, gNotN, scD, seqD_t, seqD_l, seqD_f, isNonD, List.nodup_cons, List.mem_cons, List.not_mem_nil, or_false, not_false_eq_true, Nat.reduceEqDiff, L3.Keeps, ends, wipeD, List.replicate, List.cons_append, List.nil_append, List.append_nil, List.getElem?_cons_zero, List.getElem?_cons_succ, List.set_cons_zero, List.set_cons_succ, List.getD_cons_zero, List.getD_cons_succ, List.length_cons, List.length_nil, List.nodup_nil, Option.some.injEq, Cell.dat.injEq, Cell.own.injEq, Cont.lst.injEq, D.bl.injEq, D.int.injEq, D.str.injEq, D.tup.injEq, D.lst.injEq, Arg.d.injEq, List.cons.injEq, exists_and_left, exists_and_right, exists_eq_left', exists_eq_left, exists_eq_right, exists_eq_right', exists_eq, exists_eq', and_true, true_and, and_assoc, and_self, exists_const, reduceCtorEq]
  simp only [exC] at hq
  cases h : decide (0 < wAt ss s) with
  | true =>
    rw [h, Bool.true_and] at hq
    exact ⟨fun _ => hq, fun z => (nomatch z)⟩
  | false =>
    rw [h, Bool.false_and] at hq
    exact ⟨fun z => (nomatch z), fun _ => hq⟩
theorem ok_exceeds_cap (T : Txt K mg) : FnOk P w K mg base (L2.CX P w) 1 T.f_exceeds_cap T.fd_exceeds_cap ["book", "sort", "count"] (spOf K 3 (fs_exceeds_cap K T.Z)) := by
  refine def_ok T.F_exceeds_cap sc_exceeds_cap (wb := w_exceeds_cap K T.Z) pure_exceeds_cap ?_
  intro cdv A outer s H E hr tk
  exact ⟨_, (pss_cons (ps_asg (pe_ix ix_seq (pe_fld (pv 0) rfl) (pv 1) (fun _ _ => rfl)) (pg_tup (by rfl) (pgs_cons (pg_name (i := 3) sc_exceeds_cap.nd rfl (by first | exact Or.inl rfl | exact Or.inr rfl)) (pgs_cons (pg_name (i := 4) sc_exceeds_cap.nd rfl (by first | exact Or.inl rfl | exact Or.inr rfl)) pgs_nil))))
      (pss_one (ps_ret (pe_and (pe_cmpR op_gt (pv 3) pe_int (nomark _)) (pe_one (pe_cmpR op_gt (pv 2) (pv 4) (nomark _))))))),
    (ds_seq (ds_asg (de_op o_ix (de_fld T.it_Book.cl T.na_Book_sorts (de_var 0)) (de_var 1)) (dg_tup (n := 2) (dgs_cons (dg_name 3) (dgs_cons (dg_name 4) dgs_nil))))
      (ds_ret (de_and (de_op o_gt (de_var 3) de_int) (de_op o_gt (de_var 2) (de_var 4)))))⟩
abbrev s_is_sorts : Stmt := topS 40
theorem sc_is_sorts : FnScope ["book", "web", "thing", "many", "sort"] ["book", "web", "thing"] (defScope s_is_sorts) := ⟨rfl, rfl, rfl, by decide +kernel, rfl, by decide +kernel, by decide +kernel⟩
def c1_is_sorts (K : PySem.W.Frag) (Z : CT) : EW := wLc (wSeq (wVar 2)) (wName 4) wYes (wCall 3 (fs_is_between K) (wcCons (wC (.int 0)) (wcCons (wOp gSubI (wCB gLen (wCons (wAttr Z.C_Book "sorts" (wVar 0)) wNil)) (wC (.int 1))) (wcCons (wVar 4) wcNil)))) [4]
def w_is_sorts (K : PySem.W.Frag) (Z : CT) : SW := (wSq (wAsg (wCB gLen (wCons (wAttr Z.C_Web "widths" (wVar 1)) wNil)) (wName 3))
  (wRet (wAndV (wCall 3 (fs_is_tuple_of K) (wcCons (wVar 3) (wcCons (wVar 3) (wcCons (wVar 2) wcNil)))) (wCB gAll (wCons (c1_is_sorts K Z) wNil)))))
/-- is this a tuple of n numbers of sorts -/
def isSf (n m : Nat) : D → Bool | .tup ds => decide (ds.length = n) && ds.all (isBetw 0 ((m : Int) - 1)) | _ => false
theorem tup_n {n : Nat} {d : D} : isTupOf n n d = match d with | .tup ds => decide (ds.length = n) | _ => false := by
  cases d with
  | tup ds =>
    simp only [isTupOf]
    by_cases h : ds.length = n
    · simp [h]
    · by_cases h2 : (n : Int) ≤ ds.length
      · have : ¬ (ds.length : Int) ≤ n := by omega
        simp [h, this]
      · simp [h, h2]
  | _ => rfl
def fs_is_sorts (K : PySem.W.Frag) (Z : CT) : FS := fun cs q _ => ∃ (ss ks us ds : List D) (d : D), cs = [.dat (bookD Z.C_Book (.tup ss) (.tup ks)), .dat (webD Z.C_Web (.tup us) (.tup ds)), .dat d] ∧ us.length ≤ 12 ∧ OkD K d ∧ q (.bl (isSf us.length ss.length d)) cs
theorem c1_is_sorts_ok {Z : CT} {ss ks es : List D} {c1 c3 c4 : Cell} {q : D → List Cell → Prop} {e : Xn → List Cell → Prop} (ok : OkD K (.tup es)) (hn : es.length ≤ 12)
    (hq : q (.lst (es.map fun d => .bl (isBetw 0 ((ss.length : Int) - 1) d))) [.dat (bookD Z.C_Book (.tup ss) (.tup ks)), c1, .dat (.tup es), c3, .any]) : c1_is_sorts K Z [.dat (bookD Z.C_Book (.tup ss) (.tup ks)), c1, .dat (.tup es), c3, c4] q e := by
  unfold c1_is_sorts wLc
  refine ⟨_, rfl, es, rfl, lc_fm (fun d => .bl (isBetw 0 ((ss.length : Int) - 1) d)) (fun _ => true) (by omega) (fun d hm k1 k2 h1 _ => ?_) (by rw [filter_true]; exact hq)⟩
  have okd := okTup ok hm
  simp only [fs_is_between, wAugOwn, wEnumL, wTru, wSlA, gCatA, gLtT, gLeT, wFrz, wChain3, wAttr, wMkF, wEnumT, wRevT, wDict0, wDict1, numD3, Nat.reduceAdd, atI0, atI1, atI2, atI3, atI4, ixN51, ixN52, ixN53, List.length_map, wNever, scal, V.int.injEq, V.str.injEq, V.bl.injEq, wSq, wNext, wBreak, wCont, wDrop, wRet, wRetN, wIfS, wAsg, wPar, wLstOwn, wAppend, wSetOwn, wIxOwn, wPeek, wRetOwn, wRetFr, wFor, wB, wNot, wAnd, wOr, wAndV, wOrV, wNotV, wIf, wChain, wNil, wCons, wCB, wTup, wLst, wNoPart, wPart, wSlT, wSlL, wSeq, wRng1, wRng2, wZip, wName, wNilT, wConsT, wTupT, wYes, wNeg, wVar, wC, wOp, wcNil, wcCons, wcOwn, wCall, wCallOwn, slots, cellsOf, OwnArgs, putBack, g2I, g2IC, gLen, gAbs, gGcd, gInt1, gTupleOf, gListOf, gIx, gCatT, gCat, gEq, gNe, gIsN, gNotN, scD, seqD_t, seqD_l, seqD_f, isNonD, List.nodup_cons, List.mem_cons, List.not_mem_nil, or_false, not_false_eq_true, Nat.reduceEqDiff, L3.Keeps, ends, wipeD, List.replicate, List.cons_append, List.nil_append, List.append_nil, List.getElem?_cons_zero, List.getElem?_cons_succ, List.set_cons_zero, List.set_cons_succ, List.getD_cons_zero, List.getD_cons_succ, List.length_cons, List.length_nil, List.nodup_nil, Option.some.injEq, Cell.dat.injEq, Cell.own.injEq, Cont.lst.injEq, D.bl.injEq, D.int.injEq, D.str.injEq, D.tup.injEq, D.lst.injEq, Arg.d.injEq, List.cons.injEq, exists_and_left, exists_and_right, exists_eq_left', exists_eq_left, exists_eq_right, exists_eq_right', exists_eq, exists_eq', and_true, true_and, and_assoc, and_self, exists_const, reduceCtorEq]
  simp only [true_implies]
  refine ⟨⟨_, rfl, _, book_s, ss, rfl, ?_⟩, fun z => z.elim⟩
  try simp only [wAugOwn, wEnumL, wTru, wSlA, gCatA, gLtT, gLeT, wFrz, wChain3, wAttr, wMkF, wEnumT, wRevT, wDict0, wDict1, numD3, Nat.reduceAdd, atI0, atI1, atI2, atI3, atI4, ixN51, ixN52, ixN53, List.length_map, wNever, scal, V.int.injEq, V.str.injEq, V.bl.injEq, wSq, wNext, wBreak, wCont, wDrop, wRet, wRetN, wIfS, wAsg, wPar, wLstOwn, wAppend, wSetOwn, wIxOwn, wPeek, wRetOwn, wRetFr, wFor, wB, wNot, wAnd, wOr, wAndV, wOrV, wNotV, wIf, wChain, wNil, wCons, wCB, wTup, wLst, wNoPart, wPart, wSlT, wSlL, wSeq, wRng1, wRng2, wZip, wName, wNilT, wConsT, wTupT, wYes, wNeg, wVar, wC, wOp, wcNil, wcCons, wcOwn, wCall, wCallOwn, slots, cellsOf, OwnArgs, putBack, g2I, g2IC, gLen, gAbs, gGcd, gInt1, gTupleOf, gListOf, gIx, gCatT, gCat, gEq, gNe, gIsN, gNotN, scD, seqD_t, seqD_l, seqD_f, isNonD, List.nodup_cons, List.mem_cons, List.not_mem_nil, or_false, not_false_eq_true, Nat.reduceEqDiff, L3.Keeps, ends, wipeD, List.replicate, List.cons_append, List.nil_append, List.append_nil, List.getElem?_cons_zero, List.getElem?_cons_succ, List.set_cons_zero, List.set_cons_succ, List.getD_cons_zero, List.getD_cons_succ, List.length_cons, List.length_nil, List.nodup_nil, Option.some.injEq, Cell.dat.injEq, Cell.own.injEq, Cont.lst.injEq, D.bl.injEq, D.int.injEq, D.str.injEq, D.tup.injEq, D.lst.injEq, Arg.d.injEq, List.cons.injEq, exists_and_left, exists_and_right, exists_eq_left', exists_eq_left, exists_eq_right, exists_eq_right', exists_eq, exists_eq', and_true, true_and, and_assoc, and_self, exists_const, reduceCtorEq]
  exact ⟨okd, h1 rfl _ rfl⟩
theorem pure_is_sorts {Z : CT} : PureD 3 2 (fs_is_sorts K Z) (w_is_sorts K Z) := by
  rintro cs q e - ⟨ss, ks, us, ds, d, rfl, u12, hd, hq⟩
  simp only [w_is_sorts, fs_is_tuple_of, hd, wAugOwn, wEnumL, wTru, wSlA, gCatA, gLtT, gLeT, wFrz, wChain3, wAttr, wMkF, wEnumT, wRevT, wDict0, wDict1, numD3, Nat.reduceAdd, atI0, atI1, atI2, atI3, atI4, ixN51, ixN52, ixN53, List.length_map, wNever, scal, V.int.injEq, V.str.injEq, V.bl.injEq, wSq, wNext, wBreak, wCont, wDrop, wRet, wRetN, wIfS, wAsg, wPar, wLstOwn, wAppend, wSetOwn, wIxOwn, wPeek, wRetOwn, wRetFr, wFor, wB, wNot, wAnd, wOr, wAndV, wOrV, wNotV, wIf, wChain, wNil, wCons, wCB, wTup, wLst, wNoPart, wPart, wSlT, wSlL, wSeq, wRng1, wRng2, wZip, wName, wNilT, wConsT, wTupT, wYes, wNeg, wVar, wC, wOp, wcNil, wcCons, wcOwn, wCall, wCallOwn, slots, cellsOf, OwnArgs, putBack, g2I, g2IC, gLen, gAbs, gGcd, gInt1, gTupleOf, gListOf, gIx, gCatT, gCat, gEq, gNe, gIsN, gNotN, scD, seqD_t, seqD_l, seqD_f, isNonD, List.nodup_cons, List.mem_cons, List.not_mem_nil, or_false, not_false_eq_true, Nat.reduceEqDiff, L3.Keeps, ends, wipeD, List.replicate, List.cons_append, List.nil_append, List.append_nil, List.getElem?_cons_zero, List.getElem?_cons_succ, List.set_cons_zero, List.set_cons_succ, List.getD_cons_zero, List.getD_cons_succ, List.length_cons, List.length_nil, List.nodup_nil, Option.some.injEq, Cell.dat.injEq, Cell.own.injEq, Cont.lst.injEq, D.bl.injEq, D.int.injEq, D.str.injEq, D.tup.injEq, D.lst.injEq, Arg.d.injEq, List.cons.injEq, exists_and_left, exists_and_right, exists_eq_left', exists_eq_left, exists_eq_right, exists_eq_right', exists_eq, exists_eq', and_true, true_and, and_assoc, and_self, exists_const, reduceCtorEq]
  refine ⟨_, rfl, _, web_w, us, rfl, ?_⟩
  try simp only [wAugOwn, wEnumL, wTru, wSlA, gCatA, gLtT, gLeT, wFrz, wChain3, wAttr, wMkF, wEnumT, wRevT, wDict0, wDict1, numD3, Nat.reduceAdd, atI0, atI1, atI2, atI3, atI4, ixN51, ixN52, ixN53, List.length_map, wNever, scal, V.int.injEq, V.str.injEq, V.bl.injEq, wSq, wNext, wBreak, wCont, wDrop, wRet, wRetN, wIfS, wAsg, wPar, wLstOwn, wAppend, wSetOwn, wIxOwn, wPeek, wRetOwn, wRetFr, wFor, wB, wNot, wAnd, wOr, wAndV, wOrV, wNotV, wIf, wChain, wNil, wCons, wCB, wTup, wLst, wNoPart, wPart, wSlT, wSlL, wSeq, wRng1, wRng2, wZip, wName, wNilT, wConsT, wTupT, wYes, wNeg, wVar, wC, wOp, wcNil, wcCons, wcOwn, wCall, wCallOwn, slots, cellsOf, OwnArgs, putBack, g2I, g2IC, gLen, gAbs, gGcd, gInt1, gTupleOf, gListOf, gIx, gCatT, gCat, gEq, gNe, gIsN, gNotN, scD, seqD_t, seqD_l, seqD_f, isNonD, List.nodup_cons, List.mem_cons, List.not_mem_nil, or_false, not_false_eq_true, Nat.reduceEqDiff, L3.Keeps, ends, wipeD, List.replicate, List.cons_append, List.nil_append, List.append_nil, List.getElem?_cons_zero, List.getElem?_cons_succ, List.set_cons_zero, List.set_cons_succ, List.getD_cons_zero, List.getD_cons_succ, List.length_cons, List.length_nil, List.nodup_nil, Option.some.injEq, Cell.dat.injEq, Cell.own.injEq, Cont.lst.injEq, D.bl.injEq, D.int.injEq, D.str.injEq, D.tup.injEq, D.lst.injEq, Arg.d.injEq, List.cons.injEq, exists_and_left, exists_and_right, exists_eq_left', exists_eq_left, exists_eq_right, exists_eq_right', exists_eq, exists_eq', and_true, true_and, and_assoc, and_self, exists_const, reduceCtorEq]
  cases d with
  | tup es =>
    simp only [tup_n]
    cases h : decide (es.length = us.length) with
    | true =>
      simp only [isSf, h, Bool.true_and] at hq
      have hl := of_decide_eq_true h
      refine ⟨fun _ => c1_is_sorts_ok hd (by omega) ?_, fun z => (nomatch z)⟩
      refine gAll_map ?_
      simp only [wAugOwn, wEnumL, wTru, wSlA, gCatA, gLtT, gLeT, wFrz, wChain3, wAttr, wMkF, wEnumT, wRevT, wDict0, wDict1, numD3, Nat.reduceAdd, atI0, atI1, atI2, atI3, atI4, ixN51, ixN52, ixN53, List.length_map, wNever, scal, V.int.injEq, V.str.injEq, V.bl.injEq, wSq, wNext, wBreak, wCont, wDrop, wRet, wRetN, wIfS, wAsg, wPar, wLstOwn, wAppend, wSetOwn, wIxOwn, wPeek, wRetOwn, wRetFr, wFor, wB, wNot, wAnd, wOr, wAndV, wOrV, wNotV, wIf, wChain, wNil, wCons, wCB, wTup, wLst, wNoPart, wPart, wSlT, wSlL, wSeq, wRng1, wRng2, wZip, wName, wNilT, wConsT, wTupT, wYes, wNeg, wVar, wC, wOp, wcNil, wcCons, wcOwn, wCall, wCallOwn, slots, cellsOf, OwnArgs, putBack, g2I, g2IC, gLen, gAbs, gGcd, gInt1, gTupleOf, gListOf, gIx, gCatT, gCat, gEq, gNe, gIsN, gNotN, scD, seqD_t, seqD_l, seqD_f, isNonD, List.nodup_cons, List.mem_cons, List.not_mem_nil, or_false, not_false_eq_true, Nat.reduceEqDiff, L3.Keeps, ends, wipeD, List.replicate, List.cons_append, List.nil_append, List.append_nil, List.getElem?_cons_zero, List.getElem?_cons_succ, List.set_cons_zero, List.set_cons_succ, List.getD_cons_zero, List.getD_cons_succ, List.length_cons, List.length_nil, List.nodup_nil, Option.some.injEq, Cell.dat.injEq, Cell.own.injEq, Cont.lst.injEq, D.bl.injEq, D.int.injEq, D.str.injEq, D.tup.injEq, D.lst.injEq, Arg.d.injEq, List.cons.injEq, exists_and_left, exists_and_right, exists_eq_left', exists_eq_left, exists_eq_right, exists_eq_right', exists_eq, exists_eq', and_true, true_and, and_assoc, and_self, exists_const, reduceCtorEq]
      exact hq
    | false =>
      simp only [isSf, h, Bool.false_and] at hq
      exact ⟨fun z => (nomatch z), fun _ => hq⟩
  | _ =>
    simp only [tup_n]
    exact ⟨fun z => (nomatch z), fun _ => hq⟩
theorem ok_is_sorts (T : Txt K mg) : FnOk P w K mg base (L2.CX P w) 3 T.f_is_sorts T.fd_is_sorts ["book", "web", "thing"] (spOf K 3 (fs_is_sorts K T.Z)) := by
  refine def_ok T.F_is_sorts sc_is_sorts (wb := w_is_sorts K T.Z) pure_is_sorts ?_
  intro cdv A outer s H E hr tk
  exact ⟨_, (pss_cons (ps_set (i := 3) sc_is_sorts.nd rfl (by first | exact Or.inl rfl | exact Or.inr rfl) (pe_callB call_len_seq (by rfl) T.z_len (by decide +kernel) (pa_cons (pe_fld (pv 1) rfl) pa_nil)))
      (pss_one (ps_ret (pe_and (pe_callS (ok_is_tuple_of T) (hr.mono (by decide)) rfl T.g_is_tuple_of T.k_is_tuple_of T.b_is_tuple_of (fun σ => passAt tk σ) (pa_cons (pv 3) (pa_cons (pv 3) (pa_cons (pv 2) pa_nil)))) (pe_one (pe_callB (cr_all (by rfl)) (by rfl) T.z_all (by decide +kernel) (pa_cons (pe_lc (own := [("sort", 4)]) (g := (gName 4)) (tt := tYes) (te := (tCallS (spOf K 3 (fs_is_between K)) (L2.WE W0) (tCons (tC (.int 0)) (tCons (tOp rSubI (tCB (rLenS K) (tCons (tFld K (tVar 0) "sorts") tNil)) (tC (.int 1))) (tCons (tVar 4) tNil))))) rfl sc_is_sorts.nd (pi_seq (pv 2)) (blkOk_by (N := ["book", "web", "thing", "many", "sort"]) (sc := defScope s_is_sorts) (by decide +kernel)) (fun _ _ _ _ _ => (pg_name (i := 4) sc_is_sorts.nd rfl (by first | exact Or.inl rfl | exact Or.inr rfl))) (fun _ _ _ _ _ => pts_nil) (fun _ _ _ _ _ => (pe_callS (ok_is_between T) (hr.mono (by decide)) rfl T.g_is_between T.k_is_between T.b_is_between (fun σ => passAt L2.takes0 σ) (pa_cons pe_int (pa_cons (pe_op op_sub (pe_callB call_len_seq (by rfl) T.z_len (by decide +kernel) (pa_cons (pe_fld (pv 0) rfl) pa_nil)) pe_int) (pa_cons (pv 4) pa_nil)))))) pa_nil))))))),
    (ds_seq (ds_asg (de_cb o_len (da_cons (de_fld T.it_Web.cl T.na_Web_widths (de_var 1)) da_nil)) (dg_name 3))
      (ds_ret (de_and (de_call (n := 3) (fs := fs_is_tuple_of K) (dac_cons (de_var 3) (dac_cons (de_var 3) (dac_cons (de_var 2) dac_nil)))) (de_cb o_all (da_cons (de_lc (vs := [4]) (wI := (wSeq (wVar 2))) (wg := (wName 4)) (wt := wYes) (we := (wCall 3 (fs_is_between K) (wcCons (wC (.int 0)) (wcCons (wOp gSubI (wCB gLen (wCons (wAttr T.Z.C_Book "sorts" (wVar 0)) wNil)) (wC (.int 1))) (wcCons (wVar 4) wcNil))))) (di_seq (de_var 2)) (dg_name 4) dt_yes (de_call (n := 3) (fs := fs_is_between K) (dac_cons de_int (dac_cons (de_op o_sub (de_cb o_len (da_cons (de_fld T.it_Book.cl T.na_Book_sorts (de_var 0)) da_nil)) de_int) (dac_cons (de_var 4) dac_nil)))) (by decide)) da_nil)))))⟩
abbrev s_first_fault : Stmt := topS 41
theorem sc_first_fault : FnScope ["book", "web", "sorts", "vessel", "width", "count", "number", "one", "other", "thresholds"] ["book", "web", "sorts"] (defScope s_first_fault) := ⟨rfl, rfl, rfl, by decide +kernel, rfl, by decide +kernel, by decide +kernel⟩
def l1_first_fault (K : PySem.W.Frag) (Z : CT) : SW := wFor (wEnumT (wCons (wAttr Z.C_Web "widths" (wVar 1)) wNil)) (wTupT 2 (wConsT (wName 3) (wConsT (wName 4) wNilT))) (wIfS (wB (wOp gNe (wVar 4) (wOp gIx (wOp gIx (wAttr Z.C_Book "sorts" (wVar 0)) (wOp gIx (wVar 2) (wVar 3))) (wC (.int 0))))) (wRet (wTup (wCons (wC (.str "width")) (wCons (wVar 3) wNil)))) wNext)
def l2_first_fault (K : PySem.W.Frag) (Z : CT) : SW := wFor (wEnumL (wCons (wCall 1 (fs_pipe_counts K Z) (wcCons (wVar 1) wcNil)) wNil)) (wTupT 2 (wConsT (wName 3) (wConsT (wName 5) wNilT))) (wIfS (wB (wCall 3 (fs_exceeds_cap K Z) (wcCons (wVar 0) (wcCons (wOp gIx (wVar 2) (wVar 3)) (wcCons (wVar 5) wcNil))))) (wRet (wTup (wCons (wC (.str "cap")) (wCons (wVar 3) wNil)))) wNext)
def l3_first_fault (K : PySem.W.Frag) (Z : CT) : SW := wFor (wEnumT (wCons (wAttr Z.C_Web "pipes" (wVar 1)) wNil)) (wTupT 2 (wConsT (wName 6) (wConsT (wTupT 3 (wConsT (wName 7) (wConsT (wName 8) (wConsT (wName 9) wNilT)))) wNilT))) (wIfS (wNot (wB (wCall 4 (fs_may_join K Z) (wcCons (wVar 0) (wcCons (wVar 9) (wcCons (wOp gIx (wVar 2) (wVar 7)) (wcCons (wOp gIx (wVar 2) (wVar 8)) wcNil))))))) (wRet (wTup (wCons (wC (.str "pipe")) (wCons (wVar 6) wNil)))) wNext)
def w_first_fault (K : PySem.W.Frag) (Z : CT) : SW := (wSq (l1_first_fault K Z)
  (wSq (l2_first_fault K Z)
  (wSq (l3_first_fault K Z)
  (wRet (wC .non)))))
def iAt (xs : List D) (k : Nat) : Int := match xs[k]? with | some (.int i) => i | _ => 0
/-- numbers of sorts, one for each of n vessels -/
def SoV (n m : Nat) (so : List D) : Prop := so.length = n ∧ ∀ d ∈ so, isBetw 0 ((m : Int) - 1) d = true
theorem betw_at {l h : Int} {xs : List D} {k : Nat} (hx : ∀ d ∈ xs, isBetw l h d = true) (hk : k < xs.length) : xs[k]? = some (.int (iAt xs k)) ∧ l ≤ iAt xs k ∧ iAt xs k ≤ h := by
  obtain ⟨i, e, i0, i1⟩ := betw_int (hx _ (List.getElem_mem hk))
  have e1 : xs[k]? = some (.int i) := by rw [List.getElem?_eq_getElem hk, e]
  have e2 : iAt xs k = i := by unfold iAt; rw [e1]
  rw [e2]
  exact ⟨e1, i0, i1⟩
def fWid (ss us so : List D) (k : Nat) : Bool := decide (iAt us k = wAt ss (iAt so k))
def fCap (ss ds so : List D) (k : Nat) : Bool := !exC ss (iAt so k) (cntE ds k : Nat)
def fPip (ks so ds : List D) (k : Nat) : Bool := match ds[k]? with | some (.tup [.int a, .int b, l]) => mayJ ks l (iAt so a.toNat) (iAt so b.toNat) | _ => true
def ftD (s : String) (k : Nat) : D := .tup [.str s, .int (k : Nat)]
def faultS (ss ks us ds so : List D) : D :=
  match firstIx (fWid ss us so) 0 us.length with
  | some k => ftD "width" k
  | none => match firstIx (fCap ss ds so) 0 us.length with
    | some k => ftD "cap" k
    | none => match firstIx (fPip ks so ds) 0 ds.length with
      | some k => ftD "pipe" k
      | none => .non
def fs_first_fault (K : PySem.W.Frag) (Z : CT) : FS := fun cs q _ => ∃ (ss ks us ds so : List D), cs = [.dat (bookD Z.C_Book (.tup ss) (.tup ks)), .dat (webD Z.C_Web (.tup us) (.tup ds)), .dat (.tup so)] ∧ BookV ss ks ∧ WebV us ds ∧ SoV us.length ss.length so ∧ q (faultS ss ks us ds so) cs
section
variable {Z : CT} {ss ks us ds so : List D} {E : EndsD}
theorem l1_first_fault_ok {c3 c4 c5 c6 c7 c8 c9 : Cell} (hb : BookV ss ks) (hw : WebV us ds) (hs : SoV us.length ss.length so)
    (hr : ∀ k, firstIx (fWid ss us so) 0 us.length = some k → ∀ c3 c4, E.rt (ftD "width" k) [.dat (bookD Z.C_Book (.tup ss) (.tup ks)), .dat (webD Z.C_Web (.tup us) (.tup ds)), .dat (.tup so), c3, c4, c5, c6, c7, c8, c9])
    (hn : firstIx (fWid ss us so) 0 us.length = none → ∀ c3 c4, E.nx [.dat (bookD Z.C_Book (.tup ss) (.tup ks)), .dat (webD Z.C_Web (.tup us) (.tup ds)), .dat (.tup so), c3, c4, c5, c6, c7, c8, c9]) :
    l1_first_fault K Z E [.dat (bookD Z.C_Book (.tup ss) (.tup ks)), .dat (webD Z.C_Web (.tup us) (.tup ds)), .dat (.tup so), c3, c4, c5, c6, c7, c8, c9] := by
  unfold l1_first_fault wFor
  refine ⟨_, rfl, _, _, rfl, web_w, us, rfl, fun i τ => (∃ c3 c4, τ = [.dat (bookD Z.C_Book (.tup ss) (.tup ks)), .dat (webD Z.C_Web (.tup us) (.tup ds)), .dat (.tup so), c3, c4, c5, c6, c7, c8, c9]) ∧ firstIx (fWid ss us so) 0 us.length = firstIx (fWid ss us so) i (us.length - i), ⟨⟨_, _, rfl⟩, rfl⟩, ?_, ?_⟩
  · rintro i d τ2 hi ⟨⟨c3, c4, rfl⟩, hf⟩
    have hlt : i < us.length := by
      have := (List.getElem?_eq_some_iff.mp hi).1
      rwa [List.length_mapIdx] at this
    obtain ⟨e1, w0, w1⟩ := betw_at hw.1.2.2 hlt
    obtain ⟨e2, s0, s1⟩ := betw_at (k := i) hs.2 (by rw [hs.1]; exact hlt)
    have e3 := so_get (a := iAt so i) hb.1.2.2.1 s0 (by omega)
    have e4 : atI so ((i : Nat) : Int) = some (.int (iAt so i)) := atI_nat' e2
    rw [List.getElem?_mapIdx, e1] at hi
    cases hi
    simp only [wAugOwn, wEnumL, wTru, wSlA, gCatA, gLtT, gLeT, wFrz, wChain3, wAttr, wMkF, wEnumT, wRevT, wDict0, wDict1, numD3, Nat.reduceAdd, atI0, atI1, atI2, atI3, atI4, ixN51, ixN52, ixN53, List.length_map, wNever, scal, V.int.injEq, V.str.injEq, V.bl.injEq, wSq, wNext, wBreak, wCont, wDrop, wRet, wRetN, wIfS, wAsg, wPar, wLstOwn, wAppend, wSetOwn, wIxOwn, wPeek, wRetOwn, wRetFr, wFor, wB, wNot, wAnd, wOr, wAndV, wOrV, wNotV, wIf, wChain, wNil, wCons, wCB, wTup, wLst, wNoPart, wPart, wSlT, wSlL, wSeq, wRng1, wRng2, wZip, wName, wNilT, wConsT, wTupT, wYes, wNeg, wVar, wC, wOp, wcNil, wcCons, wcOwn, wCall, wCallOwn, slots, cellsOf, OwnArgs, putBack, g2I, g2IC, gLen, gAbs, gGcd, gInt1, gTupleOf, gListOf, gIx, gCatT, gCat, gEq, gNe, gIsN, gNotN, scD, seqD_t, seqD_l, seqD_f, isNonD, List.nodup_cons, List.mem_cons, List.not_mem_nil, or_false, not_false_eq_true, Nat.reduceEqDiff, L3.Keeps, ends, wipeD, List.replicate, List.cons_append, List.nil_append, List.append_nil, List.getElem?_cons_zero, List.getElem?_cons_succ, List.set_cons_zero, List.set_cons_succ, List.getD_cons_zero, List.getD_cons_succ, List.length_cons, List.length_nil, List.nodup_nil, Option.some.injEq, Cell.dat.injEq, Cell.own.injEq, Cont.lst.injEq, D.bl.injEq, D.int.injEq, D.str.injEq, D.tup.injEq, D.lst.injEq, Arg.d.injEq, List.cons.injEq, exists_and_left, exists_and_right, exists_eq_left', exists_eq_left, exists_eq_right, exists_eq_right', exists_eq, exists_eq', and_true, true_and, and_assoc, and_self, exists_const, reduceCtorEq]
    refine ⟨_, rfl, _, book_s, _, e4, ss, rfl, _, rfl, _, e3, _, rfl, _, atI0, ?_⟩
    simp only [wAugOwn, wEnumL, wTru, wSlA, gCatA, gLtT, gLeT, wFrz, wChain3, wAttr, wMkF, wEnumT, wRevT, wDict0, wDict1, numD3, Nat.reduceAdd, atI0, atI1, atI2, atI3, atI4, ixN51, ixN52, ixN53, List.length_map, wNever, scal, V.int.injEq, V.str.injEq, V.bl.injEq, wSq, wNext, wBreak, wCont, wDrop, wRet, wRetN, wIfS, wAsg, wPar, wLstOwn, wAppend, wSetOwn, wIxOwn, wPeek, wRetOwn, wRetFr, wFor, wB, wNot, wAnd, wOr, wAndV, wOrV, wNotV, wIf, wChain, wNil, wCons, wCB, wTup, wLst, wNoPart, wPart, wSlT, wSlL, wSeq, wRng1, wRng2, wZip, wName, wNilT, wConsT, wTupT, wYes, wNeg, wVar, wC, wOp, wcNil, wcCons, wcOwn, wCall, wCallOwn, slots, cellsOf, OwnArgs, putBack, g2I, g2IC, gLen, gAbs, gGcd, gInt1, gTupleOf, gListOf, gIx, gCatT, gCat, gEq, gNe, gIsN, gNotN, scD, seqD_t, seqD_l, seqD_f, isNonD, List.nodup_cons, List.mem_cons, List.not_mem_nil, or_false, not_false_eq_true, Nat.reduceEqDiff, L3.Keeps, ends, wipeD, List.replicate, List.cons_append, List.nil_append, List.append_nil, List.getElem?_cons_zero, List.getElem?_cons_succ, List.set_cons_zero, List.set_cons_succ, List.getD_cons_zero, List.getD_cons_succ, List.length_cons, List.length_nil, List.nodup_nil, Option.some.injEq, Cell.dat.injEq, Cell.own.injEq, Cont.lst.injEq, D.bl.injEq, D.int.injEq, D.str.injEq, D.tup.injEq, D.lst.injEq, Arg.d.injEq, List.cons.injEq, exists_and_left, exists_and_right, exists_eq_left', exists_eq_left, exists_eq_right, exists_eq_right', exists_eq, exists_eq', and_true, true_and, and_assoc, and_self, exists_const, reduceCtorEq]
    cases h : fWid ss us so i with
    | true =>
      rw [firstIx_ok hlt h] at hf
      have h' := of_decide_eq_true h
      simp [h']
      exact hf
    | false =>
      rw [firstIx_no hlt h] at hf
      have h' := of_decide_eq_false h
      simp [h']
      exact hr i hf _ _
  · rintro τ2 ⟨⟨c3, c4, rfl⟩, hf⟩
    rw [List.length_mapIdx, Nat.sub_self] at hf
    exact hn hf _ _
theorem l2_first_fault_ok {c3 c4 c5 c6 c7 c8 c9 : Cell} (hb : BookV ss ks) (hw : WebV us ds) (hs : SoV us.length ss.length so)
    (hr : ∀ k, firstIx (fCap ss ds so) 0 us.length = some k → ∀ c3 c5, E.rt (ftD "cap" k) [.dat (bookD Z.C_Book (.tup ss) (.tup ks)), .dat (webD Z.C_Web (.tup us) (.tup ds)), .dat (.tup so), c3, c4, c5, c6, c7, c8, c9])
    (hn : firstIx (fCap ss ds so) 0 us.length = none → ∀ c3 c5, E.nx [.dat (bookD Z.C_Book (.tup ss) (.tup ks)), .dat (webD Z.C_Web (.tup us) (.tup ds)), .dat (.tup so), c3, c4, c5, c6, c7, c8, c9]) :
    l2_first_fault K Z E [.dat (bookD Z.C_Book (.tup ss) (.tup ks)), .dat (webD Z.C_Web (.tup us) (.tup ds)), .dat (.tup so), c3, c4, c5, c6, c7, c8, c9] := by
  unfold l2_first_fault wFor
  refine ⟨_, rfl, rfl, List.nodup_nil, trivial, us, ds, rfl, hw, _, .inl rfl, fun i τ => (∃ c3 c5, τ = [.dat (bookD Z.C_Book (.tup ss) (.tup ks)), .dat (webD Z.C_Web (.tup us) (.tup ds)), .dat (.tup so), c3, c4, c5, c6, c7, c8, c9]) ∧ firstIx (fCap ss ds so) 0 us.length = firstIx (fCap ss ds so) i (us.length - i), ⟨⟨_, _, rfl⟩, rfl⟩, ?_, ?_⟩
  · rintro i d τ2 hi ⟨⟨c3, c5, rfl⟩, hf⟩
    have hlt : i < us.length := by
      have := (List.getElem?_eq_some_iff.mp hi).1
      rwa [List.length_mapIdx, cntD_len] at this
    obtain ⟨e2, s0, s1⟩ := betw_at (k := i) hs.2 (by rw [hs.1]; exact hlt)
    have e4 : atI so ((i : Nat) : Int) = some (.int (iAt so i)) := atI_nat' e2
    rw [List.getElem?_mapIdx, cntD_get hlt] at hi
    cases hi
    simp only [e4, wAugOwn, wEnumL, wTru, wSlA, gCatA, gLtT, gLeT, wFrz, wChain3, wAttr, wMkF, wEnumT, wRevT, wDict0, wDict1, numD3, Nat.reduceAdd, atI0, atI1, atI2, atI3, atI4, ixN51, ixN52, ixN53, List.length_map, wNever, scal, V.int.injEq, V.str.injEq, V.bl.injEq, wSq, wNext, wBreak, wCont, wDrop, wRet, wRetN, wIfS, wAsg, wPar, wLstOwn, wAppend, wSetOwn, wIxOwn, wPeek, wRetOwn, wRetFr, wFor, wB, wNot, wAnd, wOr, wAndV, wOrV, wNotV, wIf, wChain, wNil, wCons, wCB, wTup, wLst, wNoPart, wPart, wSlT, wSlL, wSeq, wRng1, wRng2, wZip, wName, wNilT, wConsT, wTupT, wYes, wNeg, wVar, wC, wOp, wcNil, wcCons, wcOwn, wCall, wCallOwn, slots, cellsOf, OwnArgs, putBack, g2I, g2IC, gLen, gAbs, gGcd, gInt1, gTupleOf, gListOf, gIx, gCatT, gCat, gEq, gNe, gIsN, gNotN, scD, seqD_t, seqD_l, seqD_f, isNonD, List.nodup_cons, List.mem_cons, List.not_mem_nil, or_false, not_false_eq_true, Nat.reduceEqDiff, L3.Keeps, ends, wipeD, List.replicate, List.cons_append, List.nil_append, List.append_nil, List.getElem?_cons_zero, List.getElem?_cons_succ, List.set_cons_zero, List.set_cons_succ, List.getD_cons_zero, List.getD_cons_succ, List.length_cons, List.length_nil, List.nodup_nil, Option.some.injEq, Cell.dat.injEq, Cell.own.injEq, Cont.lst.injEq, D.bl.injEq, D.int.injEq, D.str.injEq, D.tup.injEq, D.lst.injEq, Arg.d.injEq, List.cons.injEq, exists_and_left, exists_and_right, exists_eq_left', exists_eq_left, exists_eq_right, exists_eq_right', exists_eq, exists_eq', and_true, true_and, and_assoc, and_self, exists_const, reduceCtorEq]
    refine ⟨ss, ks, _, _, rfl, hb, s0, by omega, ?_⟩
    simp only [wAugOwn, wEnumL, wTru, wSlA, gCatA, gLtT, gLeT, wFrz, wChain3, wAttr, wMkF, wEnumT, wRevT, wDict0, wDict1, numD3, Nat.reduceAdd, atI0, atI1, atI2, atI3, atI4, ixN51, ixN52, ixN53, List.length_map, wNever, scal, V.int.injEq, V.str.injEq, V.bl.injEq, wSq, wNext, wBreak, wCont, wDrop, wRet, wRetN, wIfS, wAsg, wPar, wLstOwn, wAppend, wSetOwn, wIxOwn, wPeek, wRetOwn, wRetFr, wFor, wB, wNot, wAnd, wOr, wAndV, wOrV, wNotV, wIf, wChain, wNil, wCons, wCB, wTup, wLst, wNoPart, wPart, wSlT, wSlL, wSeq, wRng1, wRng2, wZip, wName, wNilT, wConsT, wTupT, wYes, wNeg, wVar, wC, wOp, wcNil, wcCons, wcOwn, wCall, wCallOwn, slots, cellsOf, OwnArgs, putBack, g2I, g2IC, gLen, gAbs, gGcd, gInt1, gTupleOf, gListOf, gIx, gCatT, gCat, gEq, gNe, gIsN, gNotN, scD, seqD_t, seqD_l, seqD_f, isNonD, List.nodup_cons, List.mem_cons, List.not_mem_nil, or_false, not_false_eq_true, Nat.reduceEqDiff, L3.Keeps, ends, wipeD, List.replicate, List.cons_append, List.nil_append, List.append_nil, List.getElem?_cons_zero, List.getElem?_cons_succ, List.set_cons_zero, List.set_cons_succ, List.getD_cons_zero, List.getD_cons_succ, List.length_cons, List.length_nil, List.nodup_nil, Option.some.injEq, Cell.dat.injEq, Cell.own.injEq, Cont.lst.injEq, D.bl.injEq, D.int.injEq, D.str.injEq, D.tup.injEq, D.lst.injEq, Arg.d.injEq, List.cons.injEq, exists_and_left, exists_and_right, exists_eq_left', exists_eq_left, exists_eq_right, exists_eq_right', exists_eq, exists_eq', and_true, true_and, and_assoc, and_self, exists_const, reduceCtorEq]
    cases h : fCap ss ds so i with
    | true =>
      rw [firstIx_ok hlt h] at hf
      have h' : exC ss (iAt so i) (cntE ds i : Nat) = false := by simpa [fCap] using h
      rw [h']
      exact ⟨fun z => (nomatch z), fun _ => hf⟩
    | false =>
      rw [firstIx_no hlt h] at hf
      have h' : exC ss (iAt so i) (cntE ds i : Nat) = true := by simpa [fCap] using h
      rw [h']
      refine ⟨fun _ => ⟨by decide, hr i hf _ _⟩, fun z => (nomatch z)⟩
  · rintro τ2 ⟨⟨c3, c5, rfl⟩, hf⟩
    rw [List.length_mapIdx, cntD_len, Nat.sub_self] at hf
    exact hn hf _ _
theorem l3_first_fault_ok {c3 c4 c5 c6 c7 c8 c9 : Cell} (hb : BookV ss ks) (hw : WebV us ds) (hs : SoV us.length ss.length so)
    (hr : ∀ k, firstIx (fPip ks so ds) 0 ds.length = some k → ∀ c6 c7 c8 c9, E.rt (ftD "pipe" k) [.dat (bookD Z.C_Book (.tup ss) (.tup ks)), .dat (webD Z.C_Web (.tup us) (.tup ds)), .dat (.tup so), c3, c4, c5, c6, c7, c8, c9])
    (hn : firstIx (fPip ks so ds) 0 ds.length = none → ∀ c6 c7 c8 c9, E.nx [.dat (bookD Z.C_Book (.tup ss) (.tup ks)), .dat (webD Z.C_Web (.tup us) (.tup ds)), .dat (.tup so), c3, c4, c5, c6, c7, c8, c9]) :
    l3_first_fault K Z E [.dat (bookD Z.C_Book (.tup ss) (.tup ks)), .dat (webD Z.C_Web (.tup us) (.tup ds)), .dat (.tup so), c3, c4, c5, c6, c7, c8, c9] := by
  unfold l3_first_fault wFor
  refine ⟨_, rfl, _, _, rfl, web_p, ds, rfl, fun i τ => (∃ c6 c7 c8 c9, τ = [.dat (bookD Z.C_Book (.tup ss) (.tup ks)), .dat (webD Z.C_Web (.tup us) (.tup ds)), .dat (.tup so), c3, c4, c5, c6, c7, c8, c9]) ∧ firstIx (fPip ks so ds) 0 ds.length = firstIx (fPip ks so ds) i (ds.length - i), ⟨⟨_, _, _, _, rfl⟩, rfl⟩, ?_, ?_⟩
  · rintro i d τ2 hi ⟨⟨c6, c7, c8, c9, rfl⟩, hf⟩
    have hlt : i < ds.length := by
      have := (List.getElem?_eq_some_iff.mp hi).1
      rwa [List.length_mapIdx] at this
    obtain ⟨a, b, l, e1, a0, ab, bn, hl⟩ := pi_shape (hw.2.2 _ (List.getElem_mem hlt))
    have e1' : ds[i]? = some (.tup [.int a, .int b, l]) := by rw [List.getElem?_eq_getElem hlt, e1]
    rw [List.getElem?_mapIdx, e1'] at hi
    cases hi
    obtain ⟨x, rfl⟩ := Int.eq_ofNat_of_zero_le a0
    obtain ⟨y, rfl⟩ := Int.eq_ofNat_of_zero_le (show 0 ≤ b by omega)
    obtain ⟨ex, _⟩ := betw_at (k := x) hs.2 (by rw [hs.1]; omega)
    obtain ⟨ey, _⟩ := betw_at (k := y) hs.2 (by rw [hs.1]; omega)
    have fx : atI so ((x : Nat) : Int) = some (.int (iAt so x)) := atI_nat' ex
    have fy : atI so ((y : Nat) : Int) = some (.int (iAt so y)) := atI_nat' ey
    have fp : fPip ks so ds i = mayJ ks l (iAt so x) (iAt so y) := by
      unfold fPip
      rw [e1']
      simp
    simp only [fx, fy, wAugOwn, wEnumL, wTru, wSlA, gCatA, gLtT, gLeT, wFrz, wChain3, wAttr, wMkF, wEnumT, wRevT, wDict0, wDict1, numD3, Nat.reduceAdd, atI0, atI1, atI2, atI3, atI4, ixN51, ixN52, ixN53, List.length_map, wNever, scal, V.int.injEq, V.str.injEq, V.bl.injEq, wSq, wNext, wBreak, wCont, wDrop, wRet, wRetN, wIfS, wAsg, wPar, wLstOwn, wAppend, wSetOwn, wIxOwn, wPeek, wRetOwn, wRetFr, wFor, wB, wNot, wAnd, wOr, wAndV, wOrV, wNotV, wIf, wChain, wNil, wCons, wCB, wTup, wLst, wNoPart, wPart, wSlT, wSlL, wSeq, wRng1, wRng2, wZip, wName, wNilT, wConsT, wTupT, wYes, wNeg, wVar, wC, wOp, wcNil, wcCons, wcOwn, wCall, wCallOwn, slots, cellsOf, OwnArgs, putBack, g2I, g2IC, gLen, gAbs, gGcd, gInt1, gTupleOf, gListOf, gIx, gCatT, gCat, gEq, gNe, gIsN, gNotN, scD, seqD_t, seqD_l, seqD_f, isNonD, List.nodup_cons, List.mem_cons, List.not_mem_nil, or_false, not_false_eq_true, Nat.reduceEqDiff, L3.Keeps, ends, wipeD, List.replicate, List.cons_append, List.nil_append, List.append_nil, List.getElem?_cons_zero, List.getElem?_cons_succ, List.set_cons_zero, List.set_cons_succ, List.getD_cons_zero, List.getD_cons_succ, List.length_cons, List.length_nil, List.nodup_nil, Option.some.injEq, Cell.dat.injEq, Cell.own.injEq, Cont.lst.injEq, D.bl.injEq, D.int.injEq, D.str.injEq, D.tup.injEq, D.lst.injEq, Arg.d.injEq, List.cons.injEq, exists_and_left, exists_and_right, exists_eq_left', exists_eq_left, exists_eq_right, exists_eq_right', exists_eq, exists_eq', and_true, true_and, and_assoc, and_self, exists_const, reduceCtorEq]
    refine ⟨ss, ks, l, _, _, rfl, hb, hl, ?_⟩
    simp only [wAugOwn, wEnumL, wTru, wSlA, gCatA, gLtT, gLeT, wFrz, wChain3, wAttr, wMkF, wEnumT, wRevT, wDict0, wDict1, numD3, Nat.reduceAdd, atI0, atI1, atI2, atI3, atI4, ixN51, ixN52, ixN53, List.length_map, wNever, scal, V.int.injEq, V.str.injEq, V.bl.injEq, wSq, wNext, wBreak, wCont, wDrop, wRet, wRetN, wIfS, wAsg, wPar, wLstOwn, wAppend, wSetOwn, wIxOwn, wPeek, wRetOwn, wRetFr, wFor, wB, wNot, wAnd, wOr, wAndV, wOrV, wNotV, wIf, wChain, wNil, wCons, wCB, wTup, wLst, wNoPart, wPart, wSlT, wSlL, wSeq, wRng1, wRng2, wZip, wName, wNilT, wConsT, wTupT, wYes, wNeg, wVar, wC, wOp, wcNil, wcCons, wcOwn, wCall, wCallOwn, slots, cellsOf, OwnArgs, putBack, g2I, g2IC, gLen, gAbs, gGcd, gInt1, gTupleOf, gListOf, gIx, gCatT, gCat, gEq, gNe, gIsN, gNotN, scD, seqD_t, seqD_l, seqD_f, isNonD, List.nodup_cons, List.mem_cons, List.not_mem_nil, or_false, not_false_eq_true, Nat.reduceEqDiff, L3.Keeps, ends, wipeD, List.replicate, List.cons_append, List.nil_append, List.append_nil, List.getElem?_cons_zero, List.getElem?_cons_succ, List.set_cons_zero, List.set_cons_succ, List.getD_cons_zero, List.getD_cons_succ, List.length_cons, List.length_nil, List.nodup_nil, Option.some.injEq, Cell.dat.injEq, Cell.own.injEq, Cont.lst.injEq, D.bl.injEq, D.int.injEq, D.str.injEq, D.tup.injEq, D.lst.injEq, Arg.d.injEq, List.cons.injEq, exists_and_left, exists_and_right, exists_eq_left', exists_eq_left, exists_eq_right, exists_eq_right', exists_eq, exists_eq', and_true, true_and, and_assoc, and_self, exists_const, reduceCtorEq]
    cases h : fPip ks so ds i with
    | true =>
      rw [firstIx_ok hlt h] at hf
      rw [← fp, h]
      exact ⟨fun z => (nomatch z), fun _ => hf⟩
    | false =>
      rw [firstIx_no hlt h] at hf
      rw [← fp, h]
      exact ⟨fun _ => ⟨by decide, hr i hf _ _ _ _⟩, fun z => (nomatch z)⟩
  · rintro τ2 ⟨⟨c6, c7, c8, c9, rfl⟩, hf⟩
    rw [List.length_mapIdx, Nat.sub_self] at hf
    exact hn hf _ _ _ _
end
theorem pure_first_fault {Z : CT} : PureD 3 7 (fs_first_fault K Z) (w_first_fault K Z) := by
  rintro cs q e - ⟨ss, ks, us, ds, so, rfl, hb, hw, hs, hq⟩
  simp only [w_first_fault, wSq]
  refine l1_first_fault_ok (K := K) hb hw hs (fun k hk c3 c4 => ?_) fun h1 c3 c4 => ?_
  · simp only [faultS, hk] at hq
    simp only [wAugOwn, wEnumL, wTru, wSlA, gCatA, gLtT, gLeT, wFrz, wChain3, wAttr, wMkF, wEnumT, wRevT, wDict0, wDict1, numD3, Nat.reduceAdd, atI0, atI1, atI2, atI3, atI4, ixN51, ixN52, ixN53, List.length_map, wNever, scal, V.int.injEq, V.str.injEq, V.bl.injEq, wSq, wNext, wBreak, wCont, wDrop, wRet, wRetN, wIfS, wAsg, wPar, wLstOwn, wAppend, wSetOwn, wIxOwn, wPeek, wRetOwn, wRetFr, wFor, wB, wNot, wAnd, wOr, wAndV, wOrV, wNotV, wIf, wChain, wNil, wCons, wCB, wTup, wLst, wNoPart, wPart, wSlT, wSlL, wSeq, wRng1, wRng2, wZip, wName, wNilT, wConsT, wTupT, wYes, wNeg, wVar, wC, wOp, wcNil, wcCons, wcOwn, wCall, wCallOwn, slots, cellsOf, OwnArgs, putBack, g2I, g2IC, gLen, gAbs, gGcd, gInt1, gTupleOf, gListOf, gIx, gCatT, gCat, gEq, gNe, gIsN, gNotN, scD, seqD_t, seqD_l, seqD_f, isNonD, List.nodup_cons, List.mem_cons, List.not_mem_nil, or_false, not_false_eq_true, Nat.reduceEqDiff, L3.Keeps, ends, wipeD, List.replicate, List.cons_append, List.nil_append, List.append_nil, List.getElem?_cons_zero, List.getElem?_cons_succ, List.set_cons_zero, List.set_cons_succ, List.getD_cons_zero, List.getD_cons_succ, List.length_cons, List.length_nil, List.nodup_nil, Option.some.injEq, Cell.dat.injEq, Cell.own.injEq, Cont.lst.injEq, D.bl.injEq, D.int.injEq, D.str.injEq, D.tup.injEq, D.lst.injEq, Arg.d.injEq, List.cons.injEq, exists_and_left, exists_and_right, exists_eq_left', exists_eq_left, exists_eq_right, exists_eq_right', exists_eq, exists_eq', and_true, true_and, and_assoc, and_self, exists_const, reduceCtorEq]
    exact hq
  · refine l2_first_fault_ok (K := K) hb hw hs (fun k hk c3 c5 => ?_) fun h2 c3 c5 => ?_
    · simp only [faultS, h1, hk] at hq
      simp only [wAugOwn, wEnumL, wTru, wSlA, gCatA, gLtT, gLeT, wFrz, wChain3, wAttr, wMkF, wEnumT, wRevT, wDict0, wDict1, numD3, Nat.reduceAdd, atI0, atI1, atI2, atI3, atI4, ixN51, ixN52, ixN53, List.length_map, wNever, scal, V.int.injEq, V.str.injEq, V.bl.injEq, wSq, wNext, wBreak, wCont, wDrop, wRet, wRetN, wIfS, wAsg, wPar, wLstOwn, wAppend, wSetOwn, wIxOwn, wPeek, wRetOwn, wRetFr, wFor, wB, wNot, wAnd, wOr, wAndV, wOrV, wNotV, wIf, wChain, wNil, wCons, wCB, wTup, wLst, wNoPart, wPart, wSlT, wSlL, wSeq, wRng1, wRng2, wZip, wName, wNilT, wConsT, wTupT, wYes, wNeg, wVar, wC, wOp, wcNil, wcCons, wcOwn, wCall, wCallOwn, slots, cellsOf, OwnArgs, putBack, g2I, g2IC, gLen, gAbs, gGcd, gInt1, gTupleOf, gListOf, gIx, gCatT, gCat, gEq, gNe, gIsN, gNotN, scD, seqD_t, seqD_l, seqD_f, isNonD, List.nodup_cons, List.mem_cons, List.not_mem_nil, or_false, not_false_eq_true, Nat.reduceEqDiff, L3.Keeps, ends, wipeD, List.replicate, List.cons_append, List.nil_append, List.append_nil, List.getElem?_cons_zero, List.getElem?_cons_succ, List.set_cons_zero, List.set_cons_succ, List.getD_cons_zero, List.getD_cons_succ, List.length_cons, List.length_nil, List.nodup_nil, Option.some.injEq, Cell.dat.injEq, Cell.own.injEq, Cont.lst.injEq, D.bl.injEq, D.int.injEq, D.str.injEq, D.tup.injEq, D.lst.injEq, Arg.d.injEq, List.cons.injEq, exists_and_left, exists_and_right, exists_eq_left', exists_eq_left, exists_eq_right, exists_eq_right', exists_eq, exists_eq', and_true, true_and, and_assoc, and_self, exists_const, reduceCtorEq]
      exact hq
    · refine l3_first_fault_ok (K := K) hb hw hs (fun k hk c6 c7 c8 c9 => ?_) fun h3 c6 c7 c8 c9 => ?_
      · simp only [faultS, h1, h2, hk] at hq
        simp only [wAugOwn, wEnumL, wTru, wSlA, gCatA, gLtT, gLeT, wFrz, wChain3, wAttr, wMkF, wEnumT, wRevT, wDict0, wDict1, numD3, Nat.reduceAdd, atI0, atI1, atI2, atI3, atI4, ixN51, ixN52, ixN53, List.length_map, wNever, scal, V.int.injEq, V.str.injEq, V.bl.injEq, wSq, wNext, wBreak, wCont, wDrop, wRet, wRetN, wIfS, wAsg, wPar, wLstOwn, wAppend, wSetOwn, wIxOwn, wPeek, wRetOwn, wRetFr, wFor, wB, wNot, wAnd, wOr, wAndV, wOrV, wNotV, wIf, wChain, wNil, wCons, wCB, wTup, wLst, wNoPart, wPart, wSlT, wSlL, wSeq, wRng1, wRng2, wZip, wName, wNilT, wConsT, wTupT, wYes, wNeg, wVar, wC, wOp, wcNil, wcCons, wcOwn, wCall, wCallOwn, slots, cellsOf, OwnArgs, putBack, g2I, g2IC, gLen, gAbs, gGcd, gInt1, gTupleOf, gListOf, gIx, gCatT, gCat, gEq, gNe, gIsN, gNotN, scD, seqD_t, seqD_l, seqD_f, isNonD, List.nodup_cons, List.mem_cons, List.not_mem_nil, or_false, not_false_eq_true, Nat.reduceEqDiff, L3.Keeps, ends, wipeD, List.replicate, List.cons_append, List.nil_append, List.append_nil, List.getElem?_cons_zero, List.getElem?_cons_succ, List.set_cons_zero, List.set_cons_succ, List.getD_cons_zero, List.getD_cons_succ, List.length_cons, List.length_nil, List.nodup_nil, Option.some.injEq, Cell.dat.injEq, Cell.own.injEq, Cont.lst.injEq, D.bl.injEq, D.int.injEq, D.str.injEq, D.tup.injEq, D.lst.injEq, Arg.d.injEq, List.cons.injEq, exists_and_left, exists_and_right, exists_eq_left', exists_eq_left, exists_eq_right, exists_eq_right', exists_eq, exists_eq', and_true, true_and, and_assoc, and_self, exists_const, reduceCtorEq]
        exact hq
      · simp only [faultS, h1, h2, h3] at hq
        simp only [wAugOwn, wEnumL, wTru, wSlA, gCatA, gLtT, gLeT, wFrz, wChain3, wAttr, wMkF, wEnumT, wRevT, wDict0, wDict1, numD3, Nat.reduceAdd, atI0, atI1, atI2, atI3, atI4, ixN51, ixN52, ixN53, List.length_map, wNever, scal, V.int.injEq, V.str.injEq, V.bl.injEq, wSq, wNext, wBreak, wCont, wDrop, wRet, wRetN, wIfS, wAsg, wPar, wLstOwn, wAppend, wSetOwn, wIxOwn, wPeek, wRetOwn, wRetFr, wFor, wB, wNot, wAnd, wOr, wAndV, wOrV, wNotV, wIf, wChain, wNil, wCons, wCB, wTup, wLst, wNoPart, wPart, wSlT, wSlL, wSeq, wRng1, wRng2, wZip, wName, wNilT, wConsT, wTupT, wYes, wNeg, wVar, wC, wOp, wcNil, wcCons, wcOwn, wCall, wCallOwn, slots, cellsOf, OwnArgs, putBack, g2I, g2IC, gLen, gAbs, gGcd, gInt1, gTupleOf, gListOf, gIx, gCatT, gCat, gEq, gNe, gIsN, gNotN, scD, seqD_t, seqD_l, seqD_f, isNonD, List.nodup_cons, List.mem_cons, List.not_mem_nil, or_false, not_false_eq_true, Nat.reduceEqDiff, L3.Keeps, ends, wipeD, List.replicate, List.cons_append, List.nil_append, List.append_nil, List.getElem?_cons_zero, List.getElem?_cons_succ, List.set_cons_zero, List.set_cons_succ, List.getD_cons_zero, List.getD_cons_succ, List.length_cons, List.length_nil, List.nodup_nil, Option.some.injEq, Cell.dat.injEq, Cell.own.injEq, Cont.lst.injEq, D.bl.injEq, D.int.injEq, D.str.injEq, D.tup.injEq, D.lst.injEq, Arg.d.injEq, List.cons.injEq, exists_and_left, exists_and_right, exists_eq_left', exists_eq_left, exists_eq_right, exists_eq_right', exists_eq, exists_eq', and_true, true_and, and_assoc, and_self, exists_const, reduceCtorEq]
        exact hq
theorem ok_first_fault (T : Txt K mg) : FnOk P w K mg base (L2.CX P w) 2 T.f_first_fault T.fd_first_fault ["book", "web", "sorts"] (spOf K 3 (fs_first_fault K T.Z)) := by
  refine def_ok T.F_first_fault sc_first_fault (wb := w_first_fault K T.Z) pure_first_fault ?_
  intro cdv A outer s H E hr tk
  exact ⟨_, (pss_cons (ps_for (passes_of rfl) rfl (pi_enumT (by rfl) T.z_enumerate (pa_cons (pe_fld (pv 1) rfl) pa_nil)) (pg_tup (by rfl) (pgs_cons (pg_name (i := 3) sc_first_fault.nd rfl (by first | exact Or.inl rfl | exact Or.inr rfl)) (pgs_cons (pg_name (i := 4) sc_first_fault.nd rfl (by first | exact Or.inl rfl | exact Or.inr rfl)) pgs_nil)))
        (pss_one (ps_if (pt_cmpR op_ne (pv 4) (pe_ix ix_seq (pe_ix ix_seq (pe_fld (pv 0) rfl) (pe_ix ix_seq (pv 2) (pv 3) (fun _ _ => rfl)) (fun _ _ => rfl)) pe_int (fun _ _ => rfl)) (nomark _))
        (pss_one (ps_ret (pe_tup (pa_cons pe_str (pa_cons (pv 3) pa_nil)))))
        pss_nil)))
      (pss_cons (ps_for (passes_of rfl) rfl (pi_enum (by rfl) T.z_enumerate (pa_cons (pe_callS (ok_pipe_counts T) (hr.mono (by decide)) rfl T.g_pipe_counts T.k_pipe_counts T.b_pipe_counts (fun σ => passAt tk σ) (pa_cons (pv 1) pa_nil)) pa_nil)) (pg_tup (by rfl) (pgs_cons (pg_name (i := 3) sc_first_fault.nd rfl (by first | exact Or.inl rfl | exact Or.inr rfl)) (pgs_cons (pg_name (i := 5) sc_first_fault.nd rfl (by first | exact Or.inl rfl | exact Or.inr rfl)) pgs_nil)))
        (pss_one (ps_if (pt_val (pe_callS (ok_exceeds_cap T) (hr.mono (by decide)) rfl T.g_exceeds_cap T.k_exceeds_cap T.b_exceeds_cap (fun σ => passAt tk σ) (pa_cons (pv 0) (pa_cons (pe_ix ix_seq (pv 2) (pv 3) (fun _ _ => rfl)) (pa_cons (pv 5) pa_nil)))))
        (pss_one (ps_ret (pe_tup (pa_cons pe_str (pa_cons (pv 3) pa_nil)))))
        pss_nil)))
      (pss_cons (ps_for (passes_of rfl) rfl (pi_enumT (by rfl) T.z_enumerate (pa_cons (pe_fld (pv 1) rfl) pa_nil)) (pg_tup (by rfl) (pgs_cons (pg_name (i := 6) sc_first_fault.nd rfl (by first | exact Or.inl rfl | exact Or.inr rfl)) (pgs_cons (pg_tup (by rfl) (pgs_cons (pg_name (i := 7) sc_first_fault.nd rfl (by first | exact Or.inl rfl | exact Or.inr rfl)) (pgs_cons (pg_name (i := 8) sc_first_fault.nd rfl (by first | exact Or.inl rfl | exact Or.inr rfl)) (pgs_cons (pg_name (i := 9) sc_first_fault.nd rfl (by first | exact Or.inl rfl | exact Or.inr rfl)) pgs_nil)))) pgs_nil)))
        (pss_one (ps_if (pt_not (pt_val (pe_callS (ok_may_join T) (hr.mono (by decide)) rfl T.g_may_join T.k_may_join T.b_may_join (fun σ => passAt tk σ) (pa_cons (pv 0) (pa_cons (pv 9) (pa_cons (pe_ix ix_seq (pv 2) (pv 7) (fun _ _ => rfl)) (pa_cons (pe_ix ix_seq (pv 2) (pv 8) (fun _ _ => rfl)) pa_nil)))))))
        (pss_one (ps_ret (pe_tup (pa_cons pe_str (pa_cons (pv 6) pa_nil)))))
        pss_nil)))
      (pss_one (ps_ret pe_non))))),
    (ds_seq (ds_for (wI := (wEnumT (wCons (wAttr T.Z.C_Web "widths" (wVar 1)) wNil))) (wg := (wTupT 2 (wConsT (wName 3) (wConsT (wName 4) wNilT)))) (wb := (wIfS (wB (wOp gNe (wVar 4) (wOp gIx (wOp gIx (wAttr T.Z.C_Book "sorts" (wVar 0)) (wOp gIx (wVar 2) (wVar 3))) (wC (.int 0))))) (wRet (wTup (wCons (wC (.str "width")) (wCons (wVar 3) wNil)))) wNext)) (di_enumT (da_cons (de_fld T.it_Web.cl T.na_Web_widths (de_var 1)) da_nil)) (dg_tup (n := 2) (dgs_cons (dg_name 3) (dgs_cons (dg_name 4) dgs_nil))) (ds_if (dt_B (de_op o_ne (de_var 4) (de_op o_ix (de_op o_ix (de_fld T.it_Book.cl T.na_Book_sorts (de_var 0)) (de_op o_ix (de_var 2) (de_var 3))) de_int))) (ds_ret (de_tup (da_cons de_str (da_cons (de_var 3) da_nil)))) ds_nil))
      (ds_seq (ds_for (wI := (wEnumL (wCons (wCall 1 (fs_pipe_counts K T.Z) (wcCons (wVar 1) wcNil)) wNil))) (wg := (wTupT 2 (wConsT (wName 3) (wConsT (wName 5) wNilT)))) (wb := (wIfS (wB (wCall 3 (fs_exceeds_cap K T.Z) (wcCons (wVar 0) (wcCons (wOp gIx (wVar 2) (wVar 3)) (wcCons (wVar 5) wcNil))))) (wRet (wTup (wCons (wC (.str "cap")) (wCons (wVar 3) wNil)))) wNext)) (di_enumL (da_cons (de_call (n := 1) (fs := fs_pipe_counts K T.Z) (dac_cons (de_var 1) dac_nil)) da_nil)) (dg_tup (n := 2) (dgs_cons (dg_name 3) (dgs_cons (dg_name 5) dgs_nil))) (ds_if (dt_B (de_call (n := 3) (fs := fs_exceeds_cap K T.Z) (dac_cons (de_var 0) (dac_cons (de_op o_ix (de_var 2) (de_var 3)) (dac_cons (de_var 5) dac_nil))))) (ds_ret (de_tup (da_cons de_str (da_cons (de_var 3) da_nil)))) ds_nil))
      (ds_seq (ds_for (wI := (wEnumT (wCons (wAttr T.Z.C_Web "pipes" (wVar 1)) wNil))) (wg := (wTupT 2 (wConsT (wName 6) (wConsT (wTupT 3 (wConsT (wName 7) (wConsT (wName 8) (wConsT (wName 9) wNilT)))) wNilT)))) (wb := (wIfS (wNot (wB (wCall 4 (fs_may_join K T.Z) (wcCons (wVar 0) (wcCons (wVar 9) (wcCons (wOp gIx (wVar 2) (wVar 7)) (wcCons (wOp gIx (wVar 2) (wVar 8)) wcNil))))))) (wRet (wTup (wCons (wC (.str "pipe")) (wCons (wVar 6) wNil)))) wNext)) (di_enumT (da_cons (de_fld T.it_Web.cl T.na_Web_pipes (de_var 1)) da_nil)) (dg_tup (n := 2) (dgs_cons (dg_name 6) (dgs_cons (dg_tup (n := 3) (dgs_cons (dg_name 7) (dgs_cons (dg_name 8) (dgs_cons (dg_name 9) dgs_nil)))) dgs_nil))) (ds_if (dt_not (dt_B (de_call (n := 4) (fs := fs_may_join K T.Z) (dac_cons (de_var 0) (dac_cons (de_var 9) (dac_cons (de_op o_ix (de_var 2) (de_var 7)) (dac_cons (de_op o_ix (de_var 2) (de_var 8)) dac_nil))))))) (ds_ret (de_tup (da_cons de_str (da_cons (de_var 6) da_nil)))) ds_nil))
      (ds_ret de_non))))⟩
abbrev s_fault : Stmt := topS 42
theorem sc_fault : FnScope ["book", "web", "sorts"] ["book", "web", "sorts"] (defScope s_fault) := ⟨rfl, rfl, rfl, by decide +kernel, rfl, by decide +kernel, by decide +kernel⟩
def w_fault (K : PySem.W.Frag) (Z : CT) : SW := (wSq (wIfS (wNot (wB (wCall 3 (fs_is_sorts K Z) (wcCons (wVar 0) (wcCons (wVar 1) (wcCons (wVar 2) wcNil)))))) (wRaise0 Z.C_NoSorts) wNext)
  (wRet (wCall 3 (fs_first_fault K Z) (wcCons (wVar 0) (wcCons (wVar 1) (wcCons (wVar 2) wcNil))))))
theorem sf_shape {n m : Nat} {d : D} (h : isSf n m d = true) : ∃ so, d = .tup so ∧ SoV n m so := by
  cases d <;> simp [isSf] at h
  exact ⟨_, rfl, h.1, h.2⟩
def fs_fault (K : PySem.W.Frag) (Z : CT) : FS := fun cs q e => ∃ (ss ks us ds : List D) (d : D), cs = [.dat (bookD Z.C_Book (.tup ss) (.tup ks)), .dat (webD Z.C_Web (.tup us) (.tup ds)), .dat d] ∧ BookV ss ks ∧ WebV us ds ∧ OkD K d ∧ (isSf us.length ss.length d = false → e ⟨Z.C_NoSorts, []⟩ cs) ∧
  ∀ so, d = .tup so → isSf us.length ss.length d = true → q (faultS ss ks us ds so) cs
theorem pure_fault {Z : CT} : PureD 3 0 (fs_fault K Z) (w_fault K Z) := by
  rintro cs q e - ⟨ss, ks, us, ds, d, rfl, hb, hw, hd, k1, k2⟩
  simp only [w_fault, wRaise0, wAugOwn, wEnumL, wTru, wSlA, gCatA, gLtT, gLeT, wFrz, wChain3, wAttr, wMkF, wEnumT, wRevT, wDict0, wDict1, numD3, Nat.reduceAdd, atI0, atI1, atI2, atI3, atI4, ixN51, ixN52, ixN53, List.length_map, wNever, scal, V.int.injEq, V.str.injEq, V.bl.injEq, wSq, wNext, wBreak, wCont, wDrop, wRet, wRetN, wIfS, wAsg, wPar, wLstOwn, wAppend, wSetOwn, wIxOwn, wPeek, wRetOwn, wRetFr, wFor, wB, wNot, wAnd, wOr, wAndV, wOrV, wNotV, wIf, wChain, wNil, wCons, wCB, wTup, wLst, wNoPart, wPart, wSlT, wSlL, wSeq, wRng1, wRng2, wZip, wName, wNilT, wConsT, wTupT, wYes, wNeg, wVar, wC, wOp, wcNil, wcCons, wcOwn, wCall, wCallOwn, slots, cellsOf, OwnArgs, putBack, g2I, g2IC, gLen, gAbs, gGcd, gInt1, gTupleOf, gListOf, gIx, gCatT, gCat, gEq, gNe, gIsN, gNotN, scD, seqD_t, seqD_l, seqD_f, isNonD, List.nodup_cons, List.mem_cons, List.not_mem_nil, or_false, not_false_eq_true, Nat.reduceEqDiff, L3.Keeps, ends, wipeD, List.replicate, List.cons_append, List.nil_append, List.append_nil, List.getElem?_cons_zero, List.getElem?_cons_succ, List.set_cons_zero, List.set_cons_succ, List.getD_cons_zero, List.getD_cons_succ, List.length_cons, List.length_nil, List.nodup_nil, Option.some.injEq, Cell.dat.injEq, Cell.own.injEq, Cont.lst.injEq, D.bl.injEq, D.int.injEq, D.str.injEq, D.tup.injEq, D.lst.injEq, Arg.d.injEq, List.cons.injEq, exists_and_left, exists_and_right, exists_eq_left', exists_eq_left, exists_eq_right, exists_eq_right', exists_eq, exists_eq', and_true, true_and, and_assoc, and_self, exists_const, reduceCtorEq]
  refine ⟨ss, ks, us, ds, d, rfl, hw.1.2.1, hd, ?_⟩
  simp only [wAugOwn, wEnumL, wTru, wSlA, gCatA, gLtT, gLeT, wFrz, wChain3, wAttr, wMkF, wEnumT, wRevT, wDict0, wDict1, numD3, Nat.reduceAdd, atI0, atI1, atI2, atI3, atI4, ixN51, ixN52, ixN53, List.length_map, wNever, scal, V.int.injEq, V.str.injEq, V.bl.injEq, wSq, wNext, wBreak, wCont, wDrop, wRet, wRetN, wIfS, wAsg, wPar, wLstOwn, wAppend, wSetOwn, wIxOwn, wPeek, wRetOwn, wRetFr, wFor, wB, wNot, wAnd, wOr, wAndV, wOrV, wNotV, wIf, wChain, wNil, wCons, wCB, wTup, wLst, wNoPart, wPart, wSlT, wSlL, wSeq, wRng1, wRng2, wZip, wName, wNilT, wConsT, wTupT, wYes, wNeg, wVar, wC, wOp, wcNil, wcCons, wcOwn, wCall, wCallOwn, slots, cellsOf, OwnArgs, putBack, g2I, g2IC, gLen, gAbs, gGcd, gInt1, gTupleOf, gListOf, gIx, gCatT, gCat, gEq, gNe, gIsN, gNotN, scD, seqD_t, seqD_l, seqD_f, isNonD, List.nodup_cons, List.mem_cons, List.not_mem_nil, or_false, not_false_eq_true, Nat.reduceEqDiff, L3.Keeps, ends, wipeD, List.replicate, List.cons_append, List.nil_append, List.append_nil, List.getElem?_cons_zero, List.getElem?_cons_succ, List.set_cons_zero, List.set_cons_succ, List.getD_cons_zero, List.getD_cons_succ, List.length_cons, List.length_nil, List.nodup_nil, Option.some.injEq, Cell.dat.injEq, Cell.own.injEq, Cont.lst.injEq, D.bl.injEq, D.int.injEq, D.str.injEq, D.tup.injEq, D.lst.injEq, Arg.d.injEq, List.cons.injEq, exists_and_left, exists_and_right, exists_eq_left', exists_eq_left, exists_eq_right, exists_eq_right', exists_eq, exists_eq', and_true, true_and, and_assoc, and_self, exists_const, reduceCtorEq]
  cases h : isSf us.length ss.length d with
  | false => exact ⟨fun _ => k1 h, fun z => (nomatch z)⟩
  | true =>
    obtain ⟨so, rfl, hs⟩ := sf_shape h
    refine ⟨fun z => (nomatch z), fun _ => ⟨ss, ks, us, ds, so, rfl, hb, hw, hs, ?_⟩⟩
    simp only [wAugOwn, wEnumL, wTru, wSlA, gCatA, gLtT, gLeT, wFrz, wChain3, wAttr, wMkF, wEnumT, wRevT, wDict0, wDict1, numD3, Nat.reduceAdd, atI0, atI1, atI2, atI3, atI4, ixN51, ixN52, ixN53, List.length_map, wNever, scal, V.int.injEq, V.str.injEq, V.bl.injEq, wSq, wNext, wBreak, wCont, wDrop, wRet, wRetN, wIfS, wAsg, wPar, wLstOwn, wAppend, wSetOwn, wIxOwn, wPeek, wRetOwn, wRetFr, wFor, wB, wNot, wAnd, wOr, wAndV, wOrV, wNotV, wIf, wChain, wNil, wCons, wCB, wTup, wLst, wNoPart, wPart, wSlT, wSlL, wSeq, wRng1, wRng2, wZip, wName, wNilT, wConsT, wTupT, wYes, wNeg, wVar, wC, wOp, wcNil, wcCons, wcOwn, wCall, wCallOwn, slots, cellsOf, OwnArgs, putBack, g2I, g2IC, gLen, gAbs, gGcd, gInt1, gTupleOf, gListOf, gIx, gCatT, gCat, gEq, gNe, gIsN, gNotN, scD, seqD_t, seqD_l, seqD_f, isNonD, List.nodup_cons, List.mem_cons, List.not_mem_nil, or_false, not_false_eq_true, Nat.reduceEqDiff, L3.Keeps, ends, wipeD, List.replicate, List.cons_append, List.nil_append, List.append_nil, List.getElem?_cons_zero, List.getElem?_cons_succ, List.set_cons_zero, List.set_cons_succ, List.getD_cons_zero, List.getD_cons_succ, List.length_cons, List.length_nil, List.nodup_nil, Option.some.injEq, Cell.dat.injEq, Cell.own.injEq, Cont.lst.injEq, D.bl.injEq, D.int.injEq, D.str.injEq, D.tup.injEq, D.lst.injEq, Arg.d.injEq, List.cons.injEq, exists_and_left, exists_and_right, exists_eq_left', exists_eq_left, exists_eq_right, exists_eq_right', exists_eq, exists_eq', and_true, true_and, and_assoc, and_self, exists_const, reduceCtorEq]
    exact k2 so rfl h
theorem ok_fault (T : Txt K mg) : FnOk P w K mg base (L2.CX P w) 4 T.f_fault T.fd_fault ["book", "web", "sorts"] (spOf K 3 (fs_fault K T.Z)) := by
  refine def_ok T.F_fault sc_fault (wb := w_fault K T.Z) pure_fault ?_
  intro cdv A outer s H E hr tk
  exact ⟨_, (pss_cons (ps_if (pt_not (pt_val (pe_callS (ok_is_sorts T) (hr.mono (by decide)) rfl T.g_is_sorts T.k_is_sorts T.b_is_sorts (fun σ => passAt tk σ) (pa_cons (pv 0) (pa_cons (pv 1) (pa_cons (pv 2) pa_nil))))))
        (pss_one (ps_raise rfl tk (pmk0 T.x_NoSorts (hr.mono (by decide : 0 ≤ _)))))
        pss_nil)
      (pss_one (ps_ret (pe_callS (ok_first_fault T) (hr.mono (by decide)) rfl T.g_first_fault T.k_first_fault T.b_first_fault (fun σ => passAt tk σ) (pa_cons (pv 0) (pa_cons (pv 1) (pa_cons (pv 2) pa_nil))))))),
    (ds_seq (ds_if (dt_not (dt_B (de_call (n := 3) (fs := fs_is_sorts K T.Z) (dac_cons (de_var 0) (dac_cons (de_var 1) (dac_cons (de_var 2) dac_nil)))))) (ds_raise0 (C := T.Z.C_NoSorts)) ds_nil)
      (ds_ret (de_call (n := 3) (fs := fs_first_fault K T.Z) (dac_cons (de_var 0) (dac_cons (de_var 1) (dac_cons (de_var 2) dac_nil))))))⟩
abbrev s__law_source : Stmt := topS 44
theorem sc__law_source : FnScope ["script", "folded", "cell"] ["script"] (defScope s__law_source) := ⟨rfl, rfl, rfl, by decide +kernel, rfl, by decide +kernel, by decide +kernel⟩
def l1__law_source (K : PySem.W.Frag) : SW := wFor (wSeq (wVar 0)) (wName 2) (wAsg (wOp gModI (wCB gInt1 (wCons (wOp gAddI (wOp gMulA (wVar 1) (wC (.int 69621))) (wVar 2)) wNil)) (wC (.int 2147483647))) (wName 1))
def w__law_source (K : PySem.W.Frag) : SW := (wSq (wAsg (wC (.int 17)) (wName 1))
  (wSq (l1__law_source K)
  (wRetFr (wCons (wCB gListOf (wCons (wVar 0) wNil)) (wCons (wC (.int 0)) (wCons (wC (.int 0)) (wCons (wC (.int 0)) (wCons (wVar 1) wNil))))))))
def fs__law_source (K : PySem.W.Frag) : FSF := fun cs q _ => ∃ ns : List Int, cs = [.dat (.fl (ns.map D.int))] ∧ ns.length ≤ 1000 ∧ ∀ f : Int, q [.lst (ns.map D.int), .int 0, .int 0, .int 0, .int f] cs
def InvS (ns : List Int) (_ : Nat) (τ : List Cell) : Prop := ∃ (f : Int) (c : Cell), τ = [.dat (.fl (ns.map D.int)), .dat (.int f), c] ∧ 0 ≤ f ∧ f < 2147483647
theorem l1__law_source_ok {ns : List Int} {c : Cell} {E : EndsD} (hn : ∀ (f : Int) c, E.nx [.dat (.fl (ns.map D.int)), .dat (.int f), c]) : l1__law_source K E [.dat (.fl (ns.map D.int)), .dat (.int 17), c] := by
  unfold l1__law_source wFor
  refine ⟨_, rfl, _, rfl, InvS ns, ⟨17, c, rfl, by decide, by decide⟩, ?_, ?_⟩
  · rintro i d τ2 hi ⟨f, c, rfl, h1, h2⟩
    rw [List.getElem?_map] at hi
    obtain ⟨n, _, rfl⟩ := Option.map_eq_some_iff.mp hi
    simp only [wAugOwn, wEnumL, wTru, wSlA, gCatA, gLtT, gLeT, wFrz, wChain3, wAttr, wMkF, wEnumT, wRevT, wDict0, wDict1, numD3, Nat.reduceAdd, atI0, atI1, atI2, atI3, atI4, ixN51, ixN52, ixN53, List.length_map, wNever, scal, V.int.injEq, V.str.injEq, V.bl.injEq, wSq, wNext, wBreak, wCont, wDrop, wRet, wRetN, wIfS, wAsg, wPar, wLstOwn, wAppend, wSetOwn, wIxOwn, wPeek, wRetOwn, wRetFr, wFor, wB, wNot, wAnd, wOr, wAndV, wOrV, wNotV, wIf, wChain, wNil, wCons, wCB, wTup, wLst, wNoPart, wPart, wSlT, wSlL, wSeq, wRng1, wRng2, wZip, wName, wNilT, wConsT, wTupT, wYes, wNeg, wVar, wC, wOp, wcNil, wcCons, wcOwn, wCall, wCallOwn, slots, cellsOf, OwnArgs, putBack, g2I, g2IC, gLen, gAbs, gGcd, gInt1, gTupleOf, gListOf, gIx, gCatT, gCat, gEq, gNe, gIsN, gNotN, scD, seqD_t, seqD_l, seqD_f, isNonD, List.nodup_cons, List.mem_cons, List.not_mem_nil, or_false, not_false_eq_true, Nat.reduceEqDiff, L3.Keeps, ends, wipeD, List.replicate, List.cons_append, List.nil_append, List.append_nil, List.getElem?_cons_zero, List.getElem?_cons_succ, List.set_cons_zero, List.set_cons_succ, List.getD_cons_zero, List.getD_cons_succ, List.length_cons, List.length_nil, List.nodup_nil, Option.some.injEq, Cell.dat.injEq, Cell.own.injEq, Cont.lst.injEq, D.bl.injEq, D.int.injEq, D.str.injEq, D.tup.injEq, D.lst.injEq, Arg.d.injEq, List.cons.injEq, exists_and_left, exists_and_right, exists_eq_left', exists_eq_left, exists_eq_right, exists_eq_right', exists_eq, exists_eq', and_true, true_and, and_assoc, and_self, exists_const, reduceCtorEq]
    refine ⟨cmul_r (by decide) (by decide), by decide, _, _, rfl, ?_, ?_⟩ <;> omega
  · rintro τ2 ⟨f, c, rfl, _, _⟩
    exact hn f c
theorem pure__law_source : PureF 1 2 (fs__law_source K) (w__law_source K) := by
  rintro cs q e - ⟨ns, rfl, hl, hq⟩
  simp only [w__law_source, wAugOwn, wEnumL, wTru, wSlA, gCatA, gLtT, gLeT, wFrz, wChain3, wAttr, wMkF, wEnumT, wRevT, wDict0, wDict1, numD3, Nat.reduceAdd, atI0, atI1, atI2, atI3, atI4, ixN51, ixN52, ixN53, List.length_map, wNever, scal, V.int.injEq, V.str.injEq, V.bl.injEq, wSq, wNext, wBreak, wCont, wDrop, wRet, wRetN, wIfS, wAsg, wPar, wLstOwn, wAppend, wSetOwn, wIxOwn, wPeek, wRetOwn, wRetFr, wFor, wB, wNot, wAnd, wOr, wAndV, wOrV, wNotV, wIf, wChain, wNil, wCons, wCB, wTup, wLst, wNoPart, wPart, wSlT, wSlL, wSeq, wRng1, wRng2, wZip, wName, wNilT, wConsT, wTupT, wYes, wNeg, wVar, wC, wOp, wcNil, wcCons, wcOwn, wCall, wCallOwn, slots, cellsOf, OwnArgs, putBack, g2I, g2IC, gLen, gAbs, gGcd, gInt1, gTupleOf, gListOf, gIx, gCatT, gCat, gEq, gNe, gIsN, gNotN, scD, seqD_t, seqD_l, seqD_f, isNonD, List.nodup_cons, List.mem_cons, List.not_mem_nil, or_false, not_false_eq_true, Nat.reduceEqDiff, L3.Keeps, ends, wipeD, List.replicate, List.cons_append, List.nil_append, List.append_nil, List.getElem?_cons_zero, List.getElem?_cons_succ, List.set_cons_zero, List.set_cons_succ, List.getD_cons_zero, List.getD_cons_succ, List.length_cons, List.length_nil, List.nodup_nil, Option.some.injEq, Cell.dat.injEq, Cell.own.injEq, Cont.lst.injEq, D.bl.injEq, D.int.injEq, D.str.injEq, D.tup.injEq, D.lst.injEq, Arg.d.injEq, List.cons.injEq, exists_and_left, exists_and_right, exists_eq_left', exists_eq_left, exists_eq_right, exists_eq_right', exists_eq, exists_eq', and_true, true_and, and_assoc, and_self, exists_const, reduceCtorEq]
  refine l1__law_source_ok fun f c => ?_
  simp only [seqD_f, wAugOwn, wEnumL, wTru, wSlA, gCatA, gLtT, gLeT, wFrz, wChain3, wAttr, wMkF, wEnumT, wRevT, wDict0, wDict1, numD3, Nat.reduceAdd, atI0, atI1, atI2, atI3, atI4, ixN51, ixN52, ixN53, List.length_map, wNever, scal, V.int.injEq, V.str.injEq, V.bl.injEq, wSq, wNext, wBreak, wCont, wDrop, wRet, wRetN, wIfS, wAsg, wPar, wLstOwn, wAppend, wSetOwn, wIxOwn, wPeek, wRetOwn, wRetFr, wFor, wB, wNot, wAnd, wOr, wAndV, wOrV, wNotV, wIf, wChain, wNil, wCons, wCB, wTup, wLst, wNoPart, wPart, wSlT, wSlL, wSeq, wRng1, wRng2, wZip, wName, wNilT, wConsT, wTupT, wYes, wNeg, wVar, wC, wOp, wcNil, wcCons, wcOwn, wCall, wCallOwn, slots, cellsOf, OwnArgs, putBack, g2I, g2IC, gLen, gAbs, gGcd, gInt1, gTupleOf, gListOf, gIx, gCatT, gCat, gEq, gNe, gIsN, gNotN, scD, seqD_t, seqD_l, seqD_f, isNonD, List.nodup_cons, List.mem_cons, List.not_mem_nil, or_false, not_false_eq_true, Nat.reduceEqDiff, L3.Keeps, ends, wipeD, List.replicate, List.cons_append, List.nil_append, List.append_nil, List.getElem?_cons_zero, List.getElem?_cons_succ, List.set_cons_zero, List.set_cons_succ, List.getD_cons_zero, List.getD_cons_succ, List.length_cons, List.length_nil, List.nodup_nil, Option.some.injEq, Cell.dat.injEq, Cell.own.injEq, Cont.lst.injEq, D.bl.injEq, D.int.injEq, D.str.injEq, D.tup.injEq, D.lst.injEq, Arg.d.injEq, List.cons.injEq, exists_and_left, exists_and_right, exists_eq_left', exists_eq_left, exists_eq_right, exists_eq_right', exists_eq, exists_eq', and_true, true_and, and_assoc, and_self, exists_const, reduceCtorEq]
  exact ⟨by decide, hq f⟩
theorem ok__law_source (T : Txt K mg) : FnOk P w K mg base (L2.CX P w) 1 T.f__law_source T.fd__law_source ["script"] (spFr K 1 (fs__law_source K)) := by
  refine def_okFr T.F__law_source sc__law_source (wb := w__law_source K) pure__law_source ?_
  intro cdv A outer s H E hr tk
  exact ⟨_, (pss_cons (ps_set (i := 1) sc__law_source.nd rfl (by first | exact Or.inl rfl | exact Or.inr rfl) pe_int)
      (pss_cons (ps_for (passes_of rfl) rfl (pi_seq (pv 0)) (pg_name (i := 2) sc__law_source.nd rfl (by first | exact Or.inl rfl | exact Or.inr rfl))
        (pss_one (ps_set (i := 1) sc__law_source.nd rfl (by first | exact Or.inl rfl | exact Or.inr rfl) (pe_op op_mod (pe_callTy call_int1 (by rfl) T.z_int (by decide +kernel) (pa_cons (pe_op op_add (pe_op op_mulA (pv 1) pe_int) (pv 2)) pa_nil)) pe_int))))
      (pss_one (ps_ret (pe_lst (pa_cons (pe_callTy call_list_of (by rfl) T.z_list (by decide +kernel) (pa_cons (pv 0) pa_nil)) (pa_cons pe_int (pa_cons pe_int (pa_cons pe_int (pa_cons (pv 1) pa_nil)))))))))),
    (ds_seq (ds_asg de_int (dg_name 1))
      (ds_seq (ds_for (wI := (wSeq (wVar 0))) (wg := (wName 2)) (wb := (wAsg (wOp gModI (wCB gInt1 (wCons (wOp gAddI (wOp gMulA (wVar 1) (wC (.int 69621))) (wVar 2)) wNil)) (wC (.int 2147483647))) (wName 1))) (di_seq (de_var 0)) (dg_name 2) (ds_asg (de_op o_mod (de_cb o_int1 (da_cons (de_op o_add (de_op o_mulA (de_var 1) de_int) (de_var 2)) da_nil)) de_int) (dg_name 1)))
      (ds_retFr (da_cons (de_cb o_listOf (da_cons (de_var 0) da_nil)) (da_cons de_int (da_cons de_int (da_cons de_int (da_cons (de_var 1) da_nil))))))))⟩
abbrev s__law_mixed : Stmt := topS 45
theorem sc__law_mixed : FnScope ["number", "turn", "mixed"] ["number", "turn"] (defScope s__law_mixed) := ⟨rfl, rfl, rfl, by decide +kernel, rfl, by decide +kernel, by decide +kernel⟩
def w__law_mixed (K : PySem.W.Frag) : SW := (wSq (wAsg (wOp gModI (wCB gInt1 (wCons (wOp gMulA (wOp gModI (wCB gInt1 (wCons (wOp gAddI (wOp gAddI (wVar 0) (wOp gMulA (wC (.int 7919)) (wVar 1))) (wC (.int 1))) wNil)) (wC (.int 2147483647))) (wC (.int 48271))) wNil)) (wC (.int 2147483647))) (wName 2))
  (wSq (wAsg (wOp gModI (wCB gInt1 (wCons (wOp gMulA (wVar 2) (wOp gAddI (wOp gDivW (wVar 2) (wC (.int 1009))) (wC (.int 69621)))) wNil)) (wC (.int 2147483647))) (wName 2))
  (wRet (wOp gModI (wCB gInt1 (wCons (wOp gMulA (wVar 2) (wOp gAddI (wOp gDivW (wVar 2) (wC (.int 2003))) (wC (.int 40692)))) wNil)) (wC (.int 2147483399))))))
def fs__law_mixed (K : PySem.W.Frag) : FS := fun cs q _ => ∃ (n t : Int), cs = [.dat (.int n), .dat (.int t)] ∧ ∀ r : Int, 0 ≤ r → r < 2147483399 → q (.int r) cs
theorem divw {i j : Int} (h : 0 < j) (h2 : j < 2 ^ 30) : CDivW i j := wide_div h (b := 30) (by omega) (by decide) (by decide)
theorem pure__law_mixed : PureD 2 1 (fs__law_mixed K) (w__law_mixed K) := by
  rintro cs q e - ⟨n, t, rfl, hq⟩
  simp only [w__law_mixed, wAugOwn, wEnumL, wTru, wSlA, gCatA, gLtT, gLeT, wFrz, wChain3, wAttr, wMkF, wEnumT, wRevT, wDict0, wDict1, numD3, Nat.reduceAdd, atI0, atI1, atI2, atI3, atI4, ixN51, ixN52, ixN53, List.length_map, wNever, scal, V.int.injEq, V.str.injEq, V.bl.injEq, wSq, wNext, wBreak, wCont, wDrop, wRet, wRetN, wIfS, wAsg, wPar, wLstOwn, wAppend, wSetOwn, wIxOwn, wPeek, wRetOwn, wRetFr, wFor, wB, wNot, wAnd, wOr, wAndV, wOrV, wNotV, wIf, wChain, wNil, wCons, wCB, wTup, wLst, wNoPart, wPart, wSlT, wSlL, wSeq, wRng1, wRng2, wZip, wName, wNilT, wConsT, wTupT, wYes, wNeg, wVar, wC, wOp, wcNil, wcCons, wcOwn, wCall, wCallOwn, slots, cellsOf, OwnArgs, putBack, g2I, g2IC, gLen, gAbs, gGcd, gInt1, gTupleOf, gListOf, gIx, gCatT, gCat, gEq, gNe, gIsN, gNotN, scD, seqD_t, seqD_l, seqD_f, isNonD, List.nodup_cons, List.mem_cons, List.not_mem_nil, or_false, not_false_eq_true, Nat.reduceEqDiff, L3.Keeps, ends, wipeD, List.replicate, List.cons_append, List.nil_append, List.append_nil, List.getElem?_cons_zero, List.getElem?_cons_succ, List.set_cons_zero, List.set_cons_succ, List.getD_cons_zero, List.getD_cons_succ, List.length_cons, List.length_nil, List.nodup_nil, Option.some.injEq, Cell.dat.injEq, Cell.own.injEq, Cont.lst.injEq, D.bl.injEq, D.int.injEq, D.str.injEq, D.tup.injEq, D.lst.injEq, Arg.d.injEq, List.cons.injEq, exists_and_left, exists_and_right, exists_eq_left', exists_eq_left, exists_eq_right, exists_eq_right', exists_eq, exists_eq', and_true, true_and, and_assoc, and_self, exists_const, reduceCtorEq]
  refine ⟨cmul_l (by decide) (by decide), by decide, cmul_r (by decide) (by decide), by decide, divw (by decide) (by decide), cmul_l ?_ ?_, by decide, divw (by decide) (by decide), cmul_l ?_ ?_, by decide, hq _ ?_ ?_⟩ <;> omega
theorem ok__law_mixed (T : Txt K mg) : FnOk P w K mg base (L2.CX P w) 1 T.f__law_mixed T.fd__law_mixed ["number", "turn"] (spOf K 2 (fs__law_mixed K)) := by
  refine def_ok T.F__law_mixed sc__law_mixed (wb := w__law_mixed K) pure__law_mixed ?_
  intro cdv A outer s H E hr tk
  exact ⟨_, (pss_cons (ps_set (i := 2) sc__law_mixed.nd rfl (by first | exact Or.inl rfl | exact Or.inr rfl) (pe_op op_mod (pe_callTy call_int1 (by rfl) T.z_int (by decide +kernel) (pa_cons (pe_op op_mulA (pe_op op_mod (pe_callTy call_int1 (by rfl) T.z_int (by decide +kernel) (pa_cons (pe_op op_add (pe_op op_add (pv 0) (pe_op op_mulA pe_int (pv 1))) pe_int) pa_nil)) pe_int) pe_int) pa_nil)) pe_int))
      (pss_cons (ps_set (i := 2) sc__law_mixed.nd rfl (by first | exact Or.inl rfl | exact Or.inr rfl) (pe_op op_mod (pe_callTy call_int1 (by rfl) T.z_int (by decide +kernel) (pa_cons (pe_op op_mulA (pv 2) (pe_op op_add (pe_op op_fdivW (pv 2) pe_int) pe_int)) pa_nil)) pe_int))
      (pss_one (ps_ret (pe_op op_mod (pe_callTy call_int1 (by rfl) T.z_int (by decide +kernel) (pa_cons (pe_op op_mulA (pv 2) (pe_op op_add (pe_op op_fdivW (pv 2) pe_int) pe_int)) pa_nil)) pe_int))))),
    (ds_seq (ds_asg (de_op o_mod (de_cb o_int1 (da_cons (de_op o_mulA (de_op o_mod (de_cb o_int1 (da_cons (de_op o_add (de_op o_add (de_var 0) (de_op o_mulA de_int (de_var 1))) de_int) da_nil)) de_int) de_int) da_nil)) de_int) (dg_name 2))
      (ds_seq (ds_asg (de_op o_mod (de_cb o_int1 (da_cons (de_op o_mulA (de_var 2) (de_op o_add (de_op o_fdivW (de_var 2) de_int) de_int)) da_nil)) de_int) (dg_name 2))
      (ds_ret (de_op o_mod (de_cb o_int1 (da_cons (de_op o_mulA (de_var 2) (de_op o_add (de_op o_fdivW (de_var 2) de_int) de_int)) da_nil)) de_int))))⟩
abbrev s__law_draw : Stmt := topS 46
theorem sc__law_draw : FnScope ["source", "many", "number", "cell"] ["source", "many"] (defScope s__law_draw) := ⟨rfl, rfl, rfl, by decide +kernel, rfl, by decide +kernel, by decide +kernel⟩
def w__law_draw (K : PySem.W.Frag) : SW := (wSq (wSetOwn 0 (wOp gAddI (wIxOwn 0 (wC (.int 3))) (wC (.int 1))) (wC (.int 3)))
  (wSq (wIfS (wB (wOp gGtI (wIxOwn 0 (wC (.int 2))) (wC (.int 0)))) (wSq (wAsg (wIxOwn 0 (wC (.int 2))) (wName 2))
  (wSq (wSetOwn 0 (wOp gDivW (wVar 2) (wVar 1)) (wC (.int 2)))
  (wRet (wOp gModI (wCB gInt1 (wCons (wVar 2) wNil)) (wVar 1))))) wNext)
  (wSq (wIfS (wB (wOp gLtI (wIxOwn 0 (wC (.int 1))) (wCB gLen (wCons (wIxOwn 0 (wC (.int 0))) wNil)))) (wSq (wAsg (wOp gIx (wIxOwn 0 (wC (.int 0))) (wIxOwn 0 (wC (.int 1)))) (wName 3))
  (wSq (wSetOwn 0 (wOp gAddI (wIxOwn 0 (wC (.int 1))) (wC (.int 1))) (wC (.int 1)))
  (wSq (wAsg (wOp gAddI (wOp gMulA (wC (.int 2)) (wCB gAbs (wCons (wVar 3) wNil))) (wCB gInt1 (wCons (wOp gLtI (wVar 3) (wC (.int 0))) wNil))) (wName 2))
  (wSq (wIfS (wB (wOp gGeI (wVar 2) (wOp gPowI (wC (.int 10)) (wC (.int 18))))) (wSq (wSetOwn 0 (wOp gDivW (wVar 2) (wVar 1)) (wC (.int 2)))
  (wRet (wOp gModI (wCB gInt1 (wCons (wVar 2) wNil)) (wVar 1)))) wNext)
  (wRet (wOp gModI (wCB gInt1 (wCons (wOp gDivW (wCall 2 (fs__law_mixed K) (wcCons (wVar 2) (wcCons (wIxOwn 0 (wC (.int 3))) wcNil))) (wC (.int 16))) wNil)) (wVar 1))))))) wNext)
  (wRet (wOp gModI (wCB gInt1 (wCons (wOp gDivW (wCall 2 (fs__law_mixed K) (wcCons (wIxOwn 0 (wC (.int 4))) (wcCons (wIxOwn 0 (wC (.int 3))) wcNil))) (wC (.int 16))) wNil)) (wVar 1))))))
def fs__law_draw (K : PySem.W.Frag) : FS := fun cs q _ => ∃ (p : Addr) (c : Cont) (many : Int), cs = [.own p c, .dat (.int many)] ∧ SrcC c ∧ 0 < many ∧ many < 2 ^ 30 ∧
  ∀ (c' : Cont) (n : Int), SrcC c' → 0 ≤ n → n < many → q (.int n) [.own p c', .dat (.int many)]
theorem pure__law_draw : PureD 2 2 (fs__law_draw K) (w__law_draw K) := by
  rintro cs q e - ⟨p, c, many, rfl, ⟨ns, i, r, t, f, rfl, h0, h1⟩, hm, hm2, hq⟩
  simp only [w__law_draw, fs__law_mixed, wAugOwn, wEnumL, wTru, wSlA, gCatA, gLtT, gLeT, wFrz, wChain3, wAttr, wMkF, wEnumT, wRevT, wDict0, wDict1, numD3, Nat.reduceAdd, atI0, atI1, atI2, atI3, atI4, ixN51, ixN52, ixN53, List.length_map, wNever, scal, V.int.injEq, V.str.injEq, V.bl.injEq, wSq, wNext, wBreak, wCont, wDrop, wRet, wRetN, wIfS, wAsg, wPar, wLstOwn, wAppend, wSetOwn, wIxOwn, wPeek, wRetOwn, wRetFr, wFor, wB, wNot, wAnd, wOr, wAndV, wOrV, wNotV, wIf, wChain, wNil, wCons, wCB, wTup, wLst, wNoPart, wPart, wSlT, wSlL, wSeq, wRng1, wRng2, wZip, wName, wNilT, wConsT, wTupT, wYes, wNeg, wVar, wC, wOp, wcNil, wcCons, wcOwn, wCall, wCallOwn, slots, cellsOf, OwnArgs, putBack, g2I, g2IC, gLen, gAbs, gGcd, gInt1, gTupleOf, gListOf, gIx, gCatT, gCat, gEq, gNe, gIsN, gNotN, scD, seqD_t, seqD_l, seqD_f, isNonD, List.nodup_cons, List.mem_cons, List.not_mem_nil, or_false, not_false_eq_true, Nat.reduceEqDiff, L3.Keeps, ends, wipeD, List.replicate, List.cons_append, List.nil_append, List.append_nil, List.getElem?_cons_zero, List.getElem?_cons_succ, List.set_cons_zero, List.set_cons_succ, List.getD_cons_zero, List.getD_cons_succ, List.length_cons, List.length_nil, List.nodup_nil, Option.some.injEq, Cell.dat.injEq, Cell.own.injEq, Cont.lst.injEq, D.bl.injEq, D.int.injEq, D.str.injEq, D.tup.injEq, D.lst.injEq, Arg.d.injEq, List.cons.injEq, exists_and_left, exists_and_right, exists_eq_left', exists_eq_left, exists_eq_right, exists_eq_right', exists_eq, exists_eq', and_true, true_and, and_assoc, and_self, exists_const, reduceCtorEq]
  have em : ∀ x : Int, 0 ≤ x % many ∧ x % many < many := fun x => ⟨Int.emod_nonneg x (by omega), Int.emod_lt_of_pos x hm⟩
  by_cases h2 : 0 < r
  · simp only [h2, decide_true, true_implies, reduceCtorEq, false_implies, and_true]
    exact ⟨divw hm hm2, hm, hq _ _ ⟨ns, i, r / many, t + 1, f, rfl, h0, Int.ediv_nonneg (by omega) (by omega)⟩ (em _).1 (em _).2⟩
  · simp only [h2, decide_false, true_implies, reduceCtorEq, false_implies, true_and]
    by_cases h3 : i < (ns.length : Int)
    · simp only [h3, decide_true, true_implies, reduceCtorEq, false_implies, and_true]
      obtain ⟨k, rfl⟩ := Int.eq_ofNat_of_zero_le h0
      have hk : k < ns.length := by omega
      refine ⟨_, atI_nat' (by rw [List.getElem?_map, List.getElem?_eq_getElem hk]; rfl), _, rfl, cmul_l (by decide) (by decide), _, rfl, ⟨by decide, by decide, by decide⟩, fun _ => ?_, fun _ => ?_⟩
      · refine ⟨divw hm hm2, hm, hq _ _ ⟨ns, _, _, _, _, rfl, by omega, Int.ediv_nonneg ?_ (by omega)⟩ (em _).1 (em _).2⟩
        split <;> split <;> omega
      · exact fun r' _ _ => ⟨divw (by decide) (by decide), hm, hq _ _ ⟨ns, _, _, _, _, rfl, by omega, h1⟩ (em _).1 (em _).2⟩
    · simp only [h3, decide_false, true_implies, reduceCtorEq, false_implies, true_and]
      exact fun r' _ _ => ⟨divw (by decide) (by decide), hm, hq _ _ ⟨ns, _, _, _, _, rfl, h0, h1⟩ (em _).1 (em _).2⟩
theorem ok__law_draw (T : Txt K mg) : FnOk P w K mg base (L2.CX P w) 2 T.f__law_draw T.fd__law_draw ["source", "many"] (spOf K 2 (fs__law_draw K)) := by
  refine def_ok T.F__law_draw sc__law_draw (wb := w__law_draw K) pure__law_draw ?_
  intro cdv A outer s H E hr tk
  exact ⟨_, (pss_cons (ps_asg (pe_op op_add (pe_ix ix_seq (pv 0) pe_int (fun _ _ => rfl)) pe_int) (pg_sub (pv 0) pe_int set_list))
      (pss_cons (ps_if (pt_cmpR op_gt (pe_ix ix_seq (pv 0) pe_int (fun _ _ => rfl)) pe_int (nomark _))
        (pss_cons (ps_set (i := 2) sc__law_draw.nd rfl (by first | exact Or.inl rfl | exact Or.inr rfl) (pe_ix ix_seq (pv 0) pe_int (fun _ _ => rfl)))
      (pss_cons (ps_asg (pe_op op_fdivW (pv 2) (pv 1)) (pg_sub (pv 0) pe_int set_list))
      (pss_one (ps_ret (pe_op op_mod (pe_callTy call_int1 (by rfl) T.z_int (by decide +kernel) (pa_cons (pv 2) pa_nil)) (pv 1))))))
        pss_nil)
      (pss_cons (ps_if (pt_cmpR op_lt (pe_ix ix_seq (pv 0) pe_int (fun _ _ => rfl)) (pe_callB call_len_seq (by rfl) T.z_len (by decide +kernel) (pa_cons (pe_ix ix_seq (pv 0) pe_int (fun _ _ => rfl)) pa_nil)) (nomark _))
        (pss_cons (ps_set (i := 3) sc__law_draw.nd rfl (by first | exact Or.inl rfl | exact Or.inr rfl) (pe_ix ix_seq (pe_ix ix_seq (pv 0) pe_int (fun _ _ => rfl)) (pe_ix ix_seq (pv 0) pe_int (fun _ _ => rfl)) (fun _ _ => rfl)))
      (pss_cons (ps_asg (pe_op op_add (pe_ix ix_seq (pv 0) pe_int (fun _ _ => rfl)) pe_int) (pg_sub (pv 0) pe_int set_list))
      (pss_cons (ps_set (i := 2) sc__law_draw.nd rfl (by first | exact Or.inl rfl | exact Or.inr rfl) (pe_op op_add (pe_op op_mulA pe_int (pe_callB call_abs (by rfl) T.z_abs (by decide +kernel) (pa_cons (pv 3) pa_nil))) (pe_callTy call_int1 (by rfl) T.z_int (by decide +kernel) (pa_cons (pe_cmpR op_lt (pv 3) pe_int (nomark _)) pa_nil))))
      (pss_cons (ps_if (pt_cmpR op_ge (pv 2) (pe_op op_pow pe_int pe_int) (nomark _))
        (pss_cons (ps_asg (pe_op op_fdivW (pv 2) (pv 1)) (pg_sub (pv 0) pe_int set_list))
      (pss_one (ps_ret (pe_op op_mod (pe_callTy call_int1 (by rfl) T.z_int (by decide +kernel) (pa_cons (pv 2) pa_nil)) (pv 1)))))
        pss_nil)
      (pss_one (ps_ret (pe_op op_mod (pe_callTy call_int1 (by rfl) T.z_int (by decide +kernel) (pa_cons (pe_op op_fdivW (pe_callS (ok__law_mixed T) (hr.mono (by decide)) rfl T.g__law_mixed T.k__law_mixed T.b__law_mixed (fun σ => passAt tk σ) (pa_cons (pv 2) (pa_cons (pe_ix ix_seq (pv 0) pe_int (fun _ _ => rfl)) pa_nil))) pe_int) pa_nil)) (pv 1))))))))
        pss_nil)
      (pss_one (ps_ret (pe_op op_mod (pe_callTy call_int1 (by rfl) T.z_int (by decide +kernel) (pa_cons (pe_op op_fdivW (pe_callS (ok__law_mixed T) (hr.mono (by decide)) rfl T.g__law_mixed T.k__law_mixed T.b__law_mixed (fun σ => passAt tk σ) (pa_cons (pe_ix ix_seq (pv 0) pe_int (fun _ _ => rfl)) (pa_cons (pe_ix ix_seq (pv 0) pe_int (fun _ _ => rfl)) pa_nil))) pe_int) pa_nil)) (pv 1))))))),
    (ds_seq (ds_setOwn (i := 0) (de_op o_add (de_ixOwn (i := 0) de_int) de_int) de_int)
      (ds_seq (ds_if (dt_B (de_op o_gt (de_ixOwn (i := 0) de_int) de_int)) (ds_seq (ds_asg (de_ixOwn (i := 0) de_int) (dg_name 2))
      (ds_seq (ds_setOwn (i := 0) (de_op o_fdivW (de_var 2) (de_var 1)) de_int)
      (ds_ret (de_op o_mod (de_cb o_int1 (da_cons (de_var 2) da_nil)) (de_var 1))))) ds_nil)
      (ds_seq (ds_if (dt_B (de_op o_lt (de_ixOwn (i := 0) de_int) (de_cb o_len (da_cons (de_ixOwn (i := 0) de_int) da_nil)))) (ds_seq (ds_asg (de_op o_ix (de_ixOwn (i := 0) de_int) (de_ixOwn (i := 0) de_int)) (dg_name 3))
      (ds_seq (ds_setOwn (i := 0) (de_op o_add (de_ixOwn (i := 0) de_int) de_int) de_int)
      (ds_seq (ds_asg (de_op o_add (de_op o_mulA de_int (de_cb o_abs (da_cons (de_var 3) da_nil))) (de_cb o_int1 (da_cons (de_op o_lt (de_var 3) de_int) da_nil))) (dg_name 2))
      (ds_seq (ds_if (dt_B (de_op o_ge (de_var 2) (de_op o_pow de_int de_int))) (ds_seq (ds_setOwn (i := 0) (de_op o_fdivW (de_var 2) (de_var 1)) de_int)
      (ds_ret (de_op o_mod (de_cb o_int1 (da_cons (de_var 2) da_nil)) (de_var 1)))) ds_nil)
      (ds_ret (de_op o_mod (de_cb o_int1 (da_cons (de_op o_fdivW (de_call (n := 2) (fs := fs__law_mixed K) (dac_cons (de_var 2) (dac_cons (de_ixOwn (i := 0) de_int) dac_nil))) de_int) da_nil)) (de_var 1))))))) ds_nil)
      (ds_ret (de_op o_mod (de_cb o_int1 (da_cons (de_op o_fdivW (de_call (n := 2) (fs := fs__law_mixed K) (dac_cons (de_ixOwn (i := 0) de_int) (dac_cons (de_ixOwn (i := 0) de_int) dac_nil))) de_int) da_nil)) (de_var 1))))))⟩
abbrev s__law_pick : Stmt := topS 47
theorem sc__law_pick : FnScope ["source", "row"] ["source", "row"] (defScope s__law_pick) := ⟨rfl, rfl, rfl, by decide +kernel, rfl, by decide +kernel, by decide +kernel⟩
def w__law_pick (K : PySem.W.Frag) : SW := (wRet (wOp gIx (wVar 1) (wCall 2 (fs__law_draw K) (wcOwn 0 (wcCons (wCB gLen (wCons (wVar 1) wNil)) wcNil)))))
def fs__law_pick (K : PySem.W.Frag) : FS := fun cs q _ => ∃ (p : Addr) (c : Cont) (d : D) (es : List D), cs = [.own p c, .dat d] ∧ SrcC c ∧ seqD d = some es ∧ 0 < es.length ∧ es.length ≤ 1000 ∧
  ∀ (c' : Cont) (x : D), SrcC c' → x ∈ es → q x [.own p c', .dat d]
theorem atI_pos {α : Type} {l : List α} {n : Int} (h0 : 0 ≤ n) (h1 : n < l.length) : ∃ x, atI l n = some x ∧ x ∈ l := by
  obtain ⟨k, rfl⟩ := Int.eq_ofNat_of_zero_le h0
  have hk : k < l.length := by omega
  exact ⟨l[k], atI_nat' (List.getElem?_eq_getElem hk), List.getElem_mem hk⟩
theorem pure__law_pick : PureD 2 0 (fs__law_pick K) (w__law_pick K) := by
  rintro cs q e - ⟨p, c, d, es, rfl, hc, hs, h1, h2, hq⟩
  simp only [w__law_pick, fs__law_draw, hs, wAugOwn, wEnumL, wTru, wSlA, gCatA, gLtT, gLeT, wFrz, wChain3, wAttr, wMkF, wEnumT, wRevT, wDict0, wDict1, numD3, Nat.reduceAdd, atI0, atI1, atI2, atI3, atI4, ixN51, ixN52, ixN53, List.length_map, wNever, scal, V.int.injEq, V.str.injEq, V.bl.injEq, wSq, wNext, wBreak, wCont, wDrop, wRet, wRetN, wIfS, wAsg, wPar, wLstOwn, wAppend, wSetOwn, wIxOwn, wPeek, wRetOwn, wRetFr, wFor, wB, wNot, wAnd, wOr, wAndV, wOrV, wNotV, wIf, wChain, wNil, wCons, wCB, wTup, wLst, wNoPart, wPart, wSlT, wSlL, wSeq, wRng1, wRng2, wZip, wName, wNilT, wConsT, wTupT, wYes, wNeg, wVar, wC, wOp, wcNil, wcCons, wcOwn, wCall, wCallOwn, slots, cellsOf, OwnArgs, putBack, g2I, g2IC, gLen, gAbs, gGcd, gInt1, gTupleOf, gListOf, gIx, gCatT, gCat, gEq, gNe, gIsN, gNotN, scD, seqD_t, seqD_l, seqD_f, isNonD, List.nodup_cons, List.mem_cons, List.not_mem_nil, or_false, not_false_eq_true, Nat.reduceEqDiff, L3.Keeps, ends, wipeD, List.replicate, List.cons_append, List.nil_append, List.append_nil, List.getElem?_cons_zero, List.getElem?_cons_succ, List.set_cons_zero, List.set_cons_succ, List.getD_cons_zero, List.getD_cons_succ, List.length_cons, List.length_nil, List.nodup_nil, Option.some.injEq, Cell.dat.injEq, Cell.own.injEq, Cont.lst.injEq, D.bl.injEq, D.int.injEq, D.str.injEq, D.tup.injEq, D.lst.injEq, Arg.d.injEq, List.cons.injEq, exists_and_left, exists_and_right, exists_eq_left', exists_eq_left, exists_eq_right, exists_eq_right', exists_eq, exists_eq', and_true, true_and, and_assoc, and_self, exists_const, reduceCtorEq]
  refine ⟨hc, by omega, by omega, fun c' n hc' h3 h4 => ?_⟩
  obtain ⟨x, e1, e2⟩ := atI_pos h3 h4
  exact ⟨x, e1, hq c' x hc' e2⟩
theorem ok__law_pick (T : Txt K mg) : FnOk P w K mg base (L2.CX P w) 3 T.f__law_pick T.fd__law_pick ["source", "row"] (spOf K 2 (fs__law_pick K)) := by
  refine def_ok T.F__law_pick sc__law_pick (wb := w__law_pick K) pure__law_pick ?_
  intro cdv A outer s H E hr tk
  exact ⟨_, (pss_one (ps_ret (pe_ix ix_seq (pv 1) (pe_callS (ok__law_draw T) (hr.mono (by decide)) rfl T.g__law_draw T.k__law_draw T.b__law_draw (fun σ => passAt tk σ) (pa_cons (pv 0) (pa_cons (pe_callB call_len_seq (by rfl) T.z_len (by decide +kernel) (pa_cons (pv 1) pa_nil)) pa_nil))) (fun _ _ => rfl)))),
    (ds_ret (de_op o_ix (de_var 1) (de_call (n := 2) (fs := fs__law_draw K) (dac_own (j := 0) (dac_cons (de_cb o_len (da_cons (de_var 1) da_nil)) dac_nil)))))⟩
def w__law_pick_o1 (K : PySem.W.Frag) : SW := (wRet (wIxOwn 1 (wCall 2 (fs__law_draw K) (wcOwn 0 (wcCons (wPeek 1 (fun es q => q (.int es.length))) wcNil)))))
def fs__law_pick_o1 (K : PySem.W.Frag) : FS := fun cs q _ => ∃ (p : Addr) (c : Cont) (p' : Addr) (es : List D), cs = [.own p c, .own p' (.lst es)] ∧ SrcC c ∧ 0 < es.length ∧ es.length ≤ 1000 ∧
  ∀ (c' : Cont) (x : D), SrcC c' → x ∈ es → q x [.own p c', .own p' (.lst es)]
theorem pure__law_pick_o1 : PureD 2 0 (fs__law_pick_o1 K) (w__law_pick_o1 K) := by
  rintro cs q e - ⟨p, c, p', es, rfl, hc, h1, h2, hq⟩
  simp only [w__law_pick_o1, fs__law_draw, wAugOwn, wEnumL, wTru, wSlA, gCatA, gLtT, gLeT, wFrz, wChain3, wAttr, wMkF, wEnumT, wRevT, wDict0, wDict1, numD3, Nat.reduceAdd, atI0, atI1, atI2, atI3, atI4, ixN51, ixN52, ixN53, List.length_map, wNever, scal, V.int.injEq, V.str.injEq, V.bl.injEq, wSq, wNext, wBreak, wCont, wDrop, wRet, wRetN, wIfS, wAsg, wPar, wLstOwn, wAppend, wSetOwn, wIxOwn, wPeek, wRetOwn, wRetFr, wFor, wB, wNot, wAnd, wOr, wAndV, wOrV, wNotV, wIf, wChain, wNil, wCons, wCB, wTup, wLst, wNoPart, wPart, wSlT, wSlL, wSeq, wRng1, wRng2, wZip, wName, wNilT, wConsT, wTupT, wYes, wNeg, wVar, wC, wOp, wcNil, wcCons, wcOwn, wCall, wCallOwn, slots, cellsOf, OwnArgs, putBack, g2I, g2IC, gLen, gAbs, gGcd, gInt1, gTupleOf, gListOf, gIx, gCatT, gCat, gEq, gNe, gIsN, gNotN, scD, seqD_t, seqD_l, seqD_f, isNonD, List.nodup_cons, List.mem_cons, List.not_mem_nil, or_false, not_false_eq_true, Nat.reduceEqDiff, L3.Keeps, ends, wipeD, List.replicate, List.cons_append, List.nil_append, List.append_nil, List.getElem?_cons_zero, List.getElem?_cons_succ, List.set_cons_zero, List.set_cons_succ, List.getD_cons_zero, List.getD_cons_succ, List.length_cons, List.length_nil, List.nodup_nil, Option.some.injEq, Cell.dat.injEq, Cell.own.injEq, Cont.lst.injEq, D.bl.injEq, D.int.injEq, D.str.injEq, D.tup.injEq, D.lst.injEq, Arg.d.injEq, List.cons.injEq, exists_and_left, exists_and_right, exists_eq_left', exists_eq_left, exists_eq_right, exists_eq_right', exists_eq, exists_eq', and_true, true_and, and_assoc, and_self, exists_const, reduceCtorEq]
  refine ⟨hc, by omega, by omega, fun c' n hc' h3 h4 => ?_⟩
  obtain ⟨x, e1, e2⟩ := atI_pos h3 h4
  exact ⟨x, e1, hq c' x hc' e2⟩
theorem ok__law_pick_o1 (T : Txt K mg) : FnOk P w K mg base (L2.CX P w) 3 T.f__law_pick T.fd__law_pick ["source", "row"] (spOf K 2 (fs__law_pick_o1 K)) := by
  refine def_ok T.F__law_pick sc__law_pick (wb := w__law_pick_o1 K) pure__law_pick_o1 ?_
  intro cdv A outer s H E hr tk
  exact ⟨_, (pss_one (ps_ret (pe_ix ix_seq (pv 1) (pe_callS (ok__law_draw T) (hr.mono (by decide)) rfl T.g__law_draw T.k__law_draw T.b__law_draw (fun σ => passAt tk σ) (pa_cons (pv 0) (pa_cons (pe_callB call_len_seq (by rfl) T.z_len (by decide +kernel) (pa_cons (pv 1) pa_nil)) pa_nil))) (fun _ _ => rfl)))),
    (ds_ret (de_ixOwn (i := 1) (de_call (n := 2) (fs := fs__law_draw K) (dac_own (j := 0) (dac_cons (de_peek (i := 1) p_len) dac_nil)))))⟩
abbrev s__law_divisor : Stmt := topS 48
theorem sc__law_divisor : FnScope ["one", "other", "turn"] ["one", "other"] (defScope s__law_divisor) := ⟨rfl, rfl, rfl, by decide +kernel, rfl, by decide +kernel, by decide +kernel⟩
def l1__law_divisor (K : PySem.W.Frag) : SW := wFor (wRng1 (wCons (wC (.int 600)) wNil)) (wName 2) (wSq (wIfS (wB (wOp gEq (wVar 1) (wC (.int 0)))) wBreak wNext)
  (wPar 0 1 (wCons (wVar 1) (wCons (wOp gModI (wCB gInt1 (wCons (wVar 0) wNil)) (wVar 1)) wNil))))
def w__law_divisor (K : PySem.W.Frag) : SW := (wSq (wPar 0 1 (wCons (wCB gAbs (wCons (wVar 0) wNil)) (wCons (wCB gAbs (wCons (wVar 1) wNil)) wNil)))
  (wSq (l1__law_divisor K)
  (wRet (wVar 0))))
def fs__law_divisor (K : PySem.W.Frag) : FS := fun cs q _ => ∃ (a b : Int), cs = [.dat (.int a), .dat (.int b)] ∧ b.natAbs < 2 ^ 400 ∧ q (.int (Nat.gcd a.natAbs b.natAbs : Nat)) cs
def fibP : Nat → Nat × Nat
  | 0 => (0, 1)
  | n + 1 => ((fibP n).2, (fibP n).1 + (fibP n).2)
theorem fib_big : 2 ^ 400 ≤ (fibP 599).2 := by decide +kernel
/-- behind i turns, i above 0 -/
def FibI (b i m n : Nat) : Prop := n < m ∧ (fibP (i - 1)).2 * m + (fibP (i - 1)).1 * n ≤ b
theorem gcd_step {m n g i b : Nat} (hn : 0 < n) (hg : Nat.gcd m n = g) (h0 : i = 0 → n = b) (h1 : 0 < i → FibI b i m n) :
    Nat.gcd n (m % n) = g ∧ FibI b (i + 1) n (m % n) := by
  have hl : m % n < n := Nat.mod_lt m hn
  refine ⟨by rw [← hg, Nat.gcd_comm m n, Nat.gcd_rec n m, Nat.gcd_comm], hl, ?_⟩
  cases i with
  | zero =>
    have := h0 rfl
    show (fibP 0).2 * n + (fibP 0).1 * (m % n) ≤ b
    simp only [fibP]
    omega
  | succ i =>
    obtain ⟨a1, a2⟩ := h1 (Nat.succ_pos i)
    have a2 : (fibP i).2 * m + (fibP i).1 * n ≤ b := a2
    show ((fibP i).1 + (fibP i).2) * n + (fibP i).2 * (m % n) ≤ b
    have e := Nat.div_add_mod m n
    have q1 : 1 ≤ m / n := Nat.div_pos (Nat.le_of_lt a1) hn
    have q2 : n * 1 ≤ n * (m / n) := Nat.mul_le_mul_left n q1
    have q3 : n + m % n ≤ m := by omega
    have q4 := Nat.mul_le_mul_left (fibP i).2 q3
    rw [Nat.mul_add] at q4
    rw [Nat.add_mul]
    omega
theorem gcd_end {m n b : Nat} (hb : b < 2 ^ 400) (h1 : FibI b 600 m n) : n = 0 := by
  obtain ⟨a1, a2⟩ := h1
  have a2 : (fibP 599).2 * m + (fibP 599).1 * n ≤ b := a2
  cases n with
  | zero => rfl
  | succ n =>
    have hm : 1 ≤ m := by omega
    have := Nat.mul_le_mul_left (fibP 599).2 hm
    have := fib_big
    omega
theorem abs_nat (a : Int) : (if a < 0 then -a else a) = ((a.natAbs : Nat) : Int) := by split <;> omega
def InvDiv (a b i : Nat) (τ : List Cell) : Prop := ∃ (m n : Nat) (c : Cell), τ = [.dat (.int m), .dat (.int n), c] ∧ Nat.gcd m n = Nat.gcd a b ∧ (i = 0 → n = b) ∧ (0 < i → FibI b i m n)
theorem l1__law_divisor_ok {a b : Nat} {c2 : Cell} {E : EndsD} (hb : b < 2 ^ 400) (hq : ∀ (n : Nat) (c : Cell), E.nx [.dat (.int (Nat.gcd a b : Nat)), .dat (.int n), c]) :
    l1__law_divisor K E [.dat (.int a), .dat (.int b), c2] := by
  unfold l1__law_divisor wFor
  refine ⟨600, rfl, by decide, by decide, InvDiv a b, ⟨a, b, c2, rfl, rfl, fun _ => rfl, fun h => absurd h (Nat.lt_irrefl _)⟩, ?_, ?_⟩
  · rintro i d τ2 hd ⟨m, n, c, rfl, hg, h0, h1⟩
    simp only [wAugOwn, wEnumL, wTru, wSlA, gCatA, gLtT, gLeT, wFrz, wChain3, wAttr, wMkF, wEnumT, wRevT, wDict0, wDict1, numD3, Nat.reduceAdd, atI0, atI1, atI2, atI3, atI4, ixN51, ixN52, ixN53, List.length_map, wNever, scal, V.int.injEq, V.str.injEq, V.bl.injEq, wSq, wNext, wBreak, wCont, wDrop, wRet, wRetN, wIfS, wAsg, wPar, wLstOwn, wAppend, wSetOwn, wIxOwn, wPeek, wRetOwn, wRetFr, wFor, wB, wNot, wAnd, wOr, wAndV, wOrV, wNotV, wIf, wChain, wNil, wCons, wCB, wTup, wLst, wNoPart, wPart, wSlT, wSlL, wSeq, wRng1, wRng2, wZip, wName, wNilT, wConsT, wTupT, wYes, wNeg, wVar, wC, wOp, wcNil, wcCons, wcOwn, wCall, wCallOwn, slots, cellsOf, OwnArgs, putBack, g2I, g2IC, gLen, gAbs, gGcd, gInt1, gTupleOf, gListOf, gIx, gCatT, gCat, gEq, gNe, gIsN, gNotN, scD, seqD_t, seqD_l, seqD_f, isNonD, List.nodup_cons, List.mem_cons, List.not_mem_nil, or_false, not_false_eq_true, Nat.reduceEqDiff, L3.Keeps, ends, wipeD, List.replicate, List.cons_append, List.nil_append, List.append_nil, List.getElem?_cons_zero, List.getElem?_cons_succ, List.set_cons_zero, List.set_cons_succ, List.getD_cons_zero, List.getD_cons_succ, List.length_cons, List.length_nil, List.nodup_nil, Option.some.injEq, Cell.dat.injEq, Cell.own.injEq, Cont.lst.injEq, D.bl.injEq, D.int.injEq, D.str.injEq, D.tup.injEq, D.lst.injEq, Arg.d.injEq, List.cons.injEq, exists_and_left, exists_and_right, exists_eq_left', exists_eq_left, exists_eq_right, exists_eq_right', exists_eq, exists_eq', and_true, true_and, and_assoc, and_self, exists_const, reduceCtorEq]
    by_cases hn : n = 0
    · subst hn
      rw [Nat.gcd_zero_right] at hg
      refine ⟨fun _ => ?_, fun z => ?_⟩
      · rw [hg]; exact hq 0 _
      · simp at z
    · refine ⟨fun z => ?_, fun _ => ?_⟩
      · simp at z; omega
      · have hn' : 0 < n := Nat.pos_of_ne_zero hn
        obtain ⟨g1, g2⟩ := gcd_step hn' hg h0 h1
        refine ⟨by omega, ?_⟩
        exact ⟨n, m % n, _, rfl, g1, fun z => absurd z (Nat.succ_ne_zero i), fun _ => g2⟩
  · rintro τ2 ⟨m, n, c, rfl, hg, h0, h1⟩
    rw [rangeD_length] at h0 h1
    have hn := gcd_end hb (h1 (by decide))
    subst hn
    rw [Nat.gcd_zero_right] at hg
    rw [hg]
    exact hq 0 c
theorem pure__law_divisor : PureD 2 1 (fs__law_divisor K) (w__law_divisor K) := by
  rintro cs q e - ⟨a, b, rfl, hb, hq⟩
  simp only [w__law_divisor, abs_nat, wAugOwn, wEnumL, wTru, wSlA, gCatA, gLtT, gLeT, wFrz, wChain3, wAttr, wMkF, wEnumT, wRevT, wDict0, wDict1, numD3, Nat.reduceAdd, atI0, atI1, atI2, atI3, atI4, ixN51, ixN52, ixN53, List.length_map, wNever, scal, V.int.injEq, V.str.injEq, V.bl.injEq, wSq, wNext, wBreak, wCont, wDrop, wRet, wRetN, wIfS, wAsg, wPar, wLstOwn, wAppend, wSetOwn, wIxOwn, wPeek, wRetOwn, wRetFr, wFor, wB, wNot, wAnd, wOr, wAndV, wOrV, wNotV, wIf, wChain, wNil, wCons, wCB, wTup, wLst, wNoPart, wPart, wSlT, wSlL, wSeq, wRng1, wRng2, wZip, wName, wNilT, wConsT, wTupT, wYes, wNeg, wVar, wC, wOp, wcNil, wcCons, wcOwn, wCall, wCallOwn, slots, cellsOf, OwnArgs, putBack, g2I, g2IC, gLen, gAbs, gGcd, gInt1, gTupleOf, gListOf, gIx, gCatT, gCat, gEq, gNe, gIsN, gNotN, scD, seqD_t, seqD_l, seqD_f, isNonD, List.nodup_cons, List.mem_cons, List.not_mem_nil, or_false, not_false_eq_true, Nat.reduceEqDiff, L3.Keeps, ends, wipeD, List.replicate, List.cons_append, List.nil_append, List.append_nil, List.getElem?_cons_zero, List.getElem?_cons_succ, List.set_cons_zero, List.set_cons_succ, List.getD_cons_zero, List.getD_cons_succ, List.length_cons, List.length_nil, List.nodup_nil, Option.some.injEq, Cell.dat.injEq, Cell.own.injEq, Cont.lst.injEq, D.bl.injEq, D.int.injEq, D.str.injEq, D.tup.injEq, D.lst.injEq, Arg.d.injEq, List.cons.injEq, exists_and_left, exists_and_right, exists_eq_left', exists_eq_left, exists_eq_right, exists_eq_right', exists_eq, exists_eq', and_true, true_and, and_assoc, and_self, exists_const, reduceCtorEq]
  refine l1__law_divisor_ok hb fun n c => ?_
  simp only [wAugOwn, wEnumL, wTru, wSlA, gCatA, gLtT, gLeT, wFrz, wChain3, wAttr, wMkF, wEnumT, wRevT, wDict0, wDict1, numD3, Nat.reduceAdd, atI0, atI1, atI2, atI3, atI4, ixN51, ixN52, ixN53, List.length_map, wNever, scal, V.int.injEq, V.str.injEq, V.bl.injEq, wSq, wNext, wBreak, wCont, wDrop, wRet, wRetN, wIfS, wAsg, wPar, wLstOwn, wAppend, wSetOwn, wIxOwn, wPeek, wRetOwn, wRetFr, wFor, wB, wNot, wAnd, wOr, wAndV, wOrV, wNotV, wIf, wChain, wNil, wCons, wCB, wTup, wLst, wNoPart, wPart, wSlT, wSlL, wSeq, wRng1, wRng2, wZip, wName, wNilT, wConsT, wTupT, wYes, wNeg, wVar, wC, wOp, wcNil, wcCons, wcOwn, wCall, wCallOwn, slots, cellsOf, OwnArgs, putBack, g2I, g2IC, gLen, gAbs, gGcd, gInt1, gTupleOf, gListOf, gIx, gCatT, gCat, gEq, gNe, gIsN, gNotN, scD, seqD_t, seqD_l, seqD_f, isNonD, List.nodup_cons, List.mem_cons, List.not_mem_nil, or_false, not_false_eq_true, Nat.reduceEqDiff, L3.Keeps, ends, wipeD, List.replicate, List.cons_append, List.nil_append, List.append_nil, List.getElem?_cons_zero, List.getElem?_cons_succ, List.set_cons_zero, List.set_cons_succ, List.getD_cons_zero, List.getD_cons_succ, List.length_cons, List.length_nil, List.nodup_nil, Option.some.injEq, Cell.dat.injEq, Cell.own.injEq, Cont.lst.injEq, D.bl.injEq, D.int.injEq, D.str.injEq, D.tup.injEq, D.lst.injEq, Arg.d.injEq, List.cons.injEq, exists_and_left, exists_and_right, exists_eq_left', exists_eq_left, exists_eq_right, exists_eq_right', exists_eq, exists_eq', and_true, true_and, and_assoc, and_self, exists_const, reduceCtorEq]
  exact hq
theorem ok__law_divisor (T : Txt K mg) : FnOk P w K mg base (L2.CX P w) 1 T.f__law_divisor T.fd__law_divisor ["one", "other"] (spOf K 2 (fs__law_divisor K)) := by
  refine def_ok T.F__law_divisor sc__law_divisor (wb := w__law_divisor K) pure__law_divisor ?_
  intro cdv A outer s H E hr tk
  exact ⟨_, (pss_cons (ps_par (i := 0) (j := 1) (by rfl) sc__law_divisor.nd rfl rfl (by decide) rfl rfl (pa_cons (pe_callB call_abs (by rfl) T.z_abs (by decide +kernel) (pa_cons (pv 0) pa_nil)) (pa_cons (pe_callB call_abs (by rfl) T.z_abs (by decide +kernel) (pa_cons (pv 1) pa_nil)) pa_nil)) (by rfl))
      (pss_cons (ps_for (passes_of rfl) rfl (pi_range1 (by rfl) T.z_range (pa_cons pe_int pa_nil)) (pg_name (i := 2) sc__law_divisor.nd rfl (by first | exact Or.inl rfl | exact Or.inr rfl))
        (pss_cons (ps_if (pt_cmpR op_eq (pv 1) pe_int (nomark _))
        (pss_one ps_break)
        pss_nil)
      (pss_one (ps_par (i := 0) (j := 1) (by rfl) sc__law_divisor.nd rfl rfl (by decide) rfl rfl (pa_cons (pv 1) (pa_cons (pe_op op_mod (pe_callTy call_int1 (by rfl) T.z_int (by decide +kernel) (pa_cons (pv 0) pa_nil)) (pv 1)) pa_nil)) (by rfl)))))
      (pss_one (ps_ret (pv 0))))),
    (ds_seq (ds_par (i := 0) (j := 1) (da_cons (de_cb o_abs (da_cons (de_var 0) da_nil)) (da_cons (de_cb o_abs (da_cons (de_var 1) da_nil)) da_nil)))
      (ds_seq (ds_for (wI := (wRng1 (wCons (wC (.int 600)) wNil))) (wg := (wName 2)) (wb := (wSq (wIfS (wB (wOp gEq (wVar 1) (wC (.int 0)))) wBreak wNext)
  (wPar 0 1 (wCons (wVar 1) (wCons (wOp gModI (wCB gInt1 (wCons (wVar 0) wNil)) (wVar 1)) wNil))))) (di_rng1 (da_cons de_int da_nil)) (dg_name 2) (ds_seq (ds_if (dt_B (de_op o_eq (de_var 1) de_int)) ds_break ds_nil)
      (ds_par (i := 0) (j := 1) (da_cons (de_var 1) (da_cons (de_op o_mod (de_cb o_int1 (da_cons (de_var 0) da_nil)) (de_var 1)) da_nil)))))
      (ds_ret (de_var 0))))⟩
abbrev s__law_made : Stmt := topS 49
theorem sc__law_made : FnScope ["top", "bottom", "part"] ["top", "bottom"] (defScope s__law_made) := ⟨rfl, rfl, rfl, by decide +kernel, rfl, by decide +kernel, by decide +kernel⟩
def w__law_made (K : PySem.W.Frag) : SW := (wSq (wAsg (wCall 2 (fs__law_divisor K) (wcCons (wVar 0) (wcCons (wVar 1) wcNil))) (wName 2))
  (wRet (wTup (wCons (wOp gDivW (wVar 0) (wVar 2)) (wCons (wOp gDivW (wVar 1) (wVar 2)) wNil)))))
def fs__law_made (K : PySem.W.Frag) : FS := fun cs q _ => ∃ (t b : Int), cs = [.dat (.int t), .dat (.int b)] ∧ 0 < b ∧ b.natAbs < 2 ^ 400 ∧ q (nf t b) cs
theorem pure__law_made : PureD 2 1 (fs__law_made K) (w__law_made K) := by
  rintro cs q e - ⟨t, b, rfl, h0, h2, hq⟩
  simp only [w__law_made, fs__law_divisor, wAugOwn, wEnumL, wTru, wSlA, gCatA, gLtT, gLeT, wFrz, wChain3, wAttr, wMkF, wEnumT, wRevT, wDict0, wDict1, numD3, Nat.reduceAdd, atI0, atI1, atI2, atI3, atI4, ixN51, ixN52, ixN53, List.length_map, wNever, scal, V.int.injEq, V.str.injEq, V.bl.injEq, wSq, wNext, wBreak, wCont, wDrop, wRet, wRetN, wIfS, wAsg, wPar, wLstOwn, wAppend, wSetOwn, wIxOwn, wPeek, wRetOwn, wRetFr, wFor, wB, wNot, wAnd, wOr, wAndV, wOrV, wNotV, wIf, wChain, wNil, wCons, wCB, wTup, wLst, wNoPart, wPart, wSlT, wSlL, wSeq, wRng1, wRng2, wZip, wName, wNilT, wConsT, wTupT, wYes, wNeg, wVar, wC, wOp, wcNil, wcCons, wcOwn, wCall, wCallOwn, slots, cellsOf, OwnArgs, putBack, g2I, g2IC, gLen, gAbs, gGcd, gInt1, gTupleOf, gListOf, gIx, gCatT, gCat, gEq, gNe, gIsN, gNotN, scD, seqD_t, seqD_l, seqD_f, isNonD, List.nodup_cons, List.mem_cons, List.not_mem_nil, or_false, not_false_eq_true, Nat.reduceEqDiff, L3.Keeps, ends, wipeD, List.replicate, List.cons_append, List.nil_append, List.append_nil, List.getElem?_cons_zero, List.getElem?_cons_succ, List.set_cons_zero, List.set_cons_succ, List.getD_cons_zero, List.getD_cons_succ, List.length_cons, List.length_nil, List.nodup_nil, Option.some.injEq, Cell.dat.injEq, Cell.own.injEq, Cont.lst.injEq, D.bl.injEq, D.int.injEq, D.str.injEq, D.tup.injEq, D.lst.injEq, Arg.d.injEq, List.cons.injEq, exists_and_left, exists_and_right, exists_eq_left', exists_eq_left, exists_eq_right, exists_eq_right', exists_eq, exists_eq', and_true, true_and, and_assoc, and_self, exists_const, reduceCtorEq]
  have w := gcd_w (t := t) h0 (Nat.lt_of_lt_of_le h2 (pow_le (by decide)))
  exact ⟨h2, w _, w _, by decide, hq⟩
theorem ok__law_made (T : Txt K mg) : FnOk P w K mg base (L2.CX P w) 2 T.f__law_made T.fd__law_made ["top", "bottom"] (spOf K 2 (fs__law_made K)) := by
  refine def_ok T.F__law_made sc__law_made (wb := w__law_made K) pure__law_made ?_
  intro cdv A outer s H E hr tk
  exact ⟨_, (pss_cons (ps_set (i := 2) sc__law_made.nd rfl (by first | exact Or.inl rfl | exact Or.inr rfl) (pe_callS (ok__law_divisor T) (hr.mono (by decide)) rfl T.g__law_divisor T.k__law_divisor T.b__law_divisor (fun σ => passAt tk σ) (pa_cons (pv 0) (pa_cons (pv 1) pa_nil))))
      (pss_one (ps_ret (pe_tup (pa_cons (pe_op op_fdivW (pv 0) (pv 2)) (pa_cons (pe_op op_fdivW (pv 1) (pv 2)) pa_nil)))))),
    (ds_seq (ds_asg (de_call (n := 2) (fs := fs__law_divisor K) (dac_cons (de_var 0) (dac_cons (de_var 1) dac_nil))) (dg_name 2))
      (ds_ret (de_tup (da_cons (de_op o_fdivW (de_var 0) (de_var 2)) (da_cons (de_op o_fdivW (de_var 1) (de_var 2)) da_nil)))))⟩
abbrev s__law_same : Stmt := topS 50
theorem sc__law_same : FnScope ["actual", "expected", "k"] ["actual", "expected"] (defScope s__law_same) := ⟨rfl, rfl, rfl, by decide +kernel, rfl, by decide +kernel, by decide +kernel⟩
def l1__law_same (K : PySem.W.Frag) (R : FS) : SW := wFor (wRng1 (wCons (wCB gLen (wCons (wVar 1) wNil)) wNil)) (wName 2) (wIfS (wNot (wB (wCall 2 R (wcCons (wOp gIx (wVar 0) (wVar 2)) (wcCons (wOp gIx (wVar 1) (wVar 2)) wcNil))))) (wRet (wC (.bl false))) wNext)
def w__law_same (K : PySem.W.Frag) (R : FS) : SW := (wSq (wIfS (wB (wOp gIsN (wVar 1) (wC .non))) (wRet (wOp gIsN (wVar 0) (wC .non))) wNext)
  (wSq (wIfS (wB (wCB (gIsi K) (wCons (wVar 1) (wCons (wC (.ty "bool")) wNil)))) (wRet (wAndV (wCB (gIsi K) (wCons (wVar 0) (wCons (wC (.ty "bool")) wNil))) (wOp gEqD (wVar 0) (wVar 1)))) wNext)
  (wSq (wIfS (wB (wCB (gIsi K) (wCons (wVar 1) (wCons (wC (.ty "int")) wNil)))) (wRet (wAndV (wCB (gIsi K) (wCons (wVar 0) (wCons (wC (.ty "int")) wNil))) (wAndV (wNotV (wCB (gIsi K) (wCons (wVar 0) (wCons (wC (.ty "bool")) wNil)))) (wOp gEqD (wVar 0) (wVar 1))))) wNext)
  (wSq (wIfS (wB (wCB (gIsi K) (wCons (wVar 1) (wCons (wC (.ty "str")) wNil)))) (wRet (wAndV (wCB (gIsi K) (wCons (wVar 0) (wCons (wC (.ty "str")) wNil))) (wOp gEqD (wVar 0) (wVar 1)))) wNext)
  (wSq (wIfS (wAnd (wB (wCB (gIsi K) (wCons (wVar 1) (wCons (wC (.ty "tuple")) wNil)))) (wNot (wB (wCB (gIsi K) (wCons (wVar 0) (wCons (wC (.ty "tuple")) wNil)))))) (wRet (wC (.bl false))) wNext)
  (wSq (wIfS (wAnd (wB (wCB (gIsi K) (wCons (wVar 1) (wCons (wC (.ty "list")) wNil)))) (wNot (wB (wCB (gIsi K) (wCons (wVar 0) (wCons (wC (.ty "list")) wNil)))))) (wRet (wC (.bl false))) wNext)
  (wSq (wIfS (wB (wOp gNe (wCB gLen (wCons (wVar 0) wNil)) (wCB gLen (wCons (wVar 1) wNil)))) (wRet (wC (.bl false))) wNext)
  (wSq (l1__law_same K R)
  (wRet (wC (.bl true)))))))))))
/-- things that are held one against the other, n deep at most -/
def SameD : Nat → D → Prop
  | 0, _ => False
  | _ + 1, .non => True
  | _ + 1, .bl _ => True
  | _ + 1, .int _ => True
  | _ + 1, .str x => SeqAt.shaped (.str x) = true
  | n + 1, .tup ds => ds.length ≤ 1000 ∧ ∀ d ∈ ds, SameD n d
  | n + 1, .lst ds => ds.length ≤ 1000 ∧ ∀ d ∈ ds, SameD n d
  | _ + 1, _ => False
theorem sameD_ok : ∀ {n : Nat} {d : D}, SameD n d → OkD K d
  | 0, _, h => h.elim
  | n + 1, .non, _ => by unfold OkD; trivial
  | n + 1, .bl _, _ => by unfold OkD; trivial
  | n + 1, .int _, _ => by unfold OkD; trivial
  | n + 1, .str _, _ => by unfold OkD; trivial
  | n + 1, .tup ds, h => by
    unfold OkD
    exact okDs_of fun d hd => sameD_ok (h.2 d hd)
  | n + 1, .lst ds, h => by
    unfold OkD
    exact okDs_of fun d hd => sameD_ok (h.2 d hd)
  | n + 1, .fl _, h => h.elim
  | n + 1, .ty _, h => h.elim
  | n + 1, .oth _, h => h.elim
  | n + 1, .ins _ _, h => h.elim
def fs__law_same (K : PySem.W.Frag) (n : Nat) : FS := fun cs q _ => ∃ d : D, cs = [.dat d, .dat d] ∧ SameD n d ∧ q (.bl true) cs
theorem l1__law_same_ok {n : Nat} {d : D} {ds : List D} {c : Cell} {E : EndsD} (hs : seqD d = some ds) (hl : ds.length ≤ 1000) (h : ∀ x ∈ ds, SameD n x) (hn : ∀ c, E.nx [.dat d, .dat d, c]) :
    l1__law_same K (fs__law_same K n) E [.dat d, .dat d, c] := by
  unfold l1__law_same wFor
  refine ⟨d, rfl, d, ds, rfl, hs, _, rfl, by omega, by omega, fun _ τ => ∃ c, τ = [.dat d, .dat d, c], ⟨c, rfl⟩, ?_, ?_⟩
  · rintro i x τ2 hi ⟨c, rfl⟩
    have hlt : i < ds.length := by
      have := (List.getElem?_eq_some_iff.mp hi).1
      rw [rangeD_length] at this
      omega
    rw [rangeD_get (by omega)] at hi
    cases hi
    have e1 : ds[i]? = some ds[i] := List.getElem?_eq_getElem hlt
    have f1 : atI ds (0 + (i : Nat)) = some ds[i] := by
      have : (0 : Int) + (i : Nat) = ((i : Nat) : Int) := by omega
      rw [this]
      exact atI_nat' e1
    simp only [fs__law_same, hs, f1, wAugOwn, wEnumL, wTru, wSlA, gCatA, gLtT, gLeT, wFrz, wChain3, wAttr, wMkF, wEnumT, wRevT, wDict0, wDict1, numD3, Nat.reduceAdd, atI0, atI1, atI2, atI3, atI4, ixN51, ixN52, ixN53, List.length_map, wNever, scal, V.int.injEq, V.str.injEq, V.bl.injEq, wSq, wNext, wBreak, wCont, wDrop, wRet, wRetN, wIfS, wAsg, wPar, wLstOwn, wAppend, wSetOwn, wIxOwn, wPeek, wRetOwn, wRetFr, wFor, wB, wNot, wAnd, wOr, wAndV, wOrV, wNotV, wIf, wChain, wNil, wCons, wCB, wTup, wLst, wNoPart, wPart, wSlT, wSlL, wSeq, wRng1, wRng2, wZip, wName, wNilT, wConsT, wTupT, wYes, wNeg, wVar, wC, wOp, wcNil, wcCons, wcOwn, wCall, wCallOwn, slots, cellsOf, OwnArgs, putBack, g2I, g2IC, gLen, gAbs, gGcd, gInt1, gTupleOf, gListOf, gIx, gCatT, gCat, gEq, gNe, gIsN, gNotN, scD, seqD_t, seqD_l, seqD_f, isNonD, List.nodup_cons, List.mem_cons, List.not_mem_nil, or_false, not_false_eq_true, Nat.reduceEqDiff, L3.Keeps, ends, wipeD, List.replicate, List.cons_append, List.nil_append, List.append_nil, List.getElem?_cons_zero, List.getElem?_cons_succ, List.set_cons_zero, List.set_cons_succ, List.getD_cons_zero, List.getD_cons_succ, List.length_cons, List.length_nil, List.nodup_nil, Option.some.injEq, Cell.dat.injEq, Cell.own.injEq, Cont.lst.injEq, D.bl.injEq, D.int.injEq, D.str.injEq, D.tup.injEq, D.lst.injEq, Arg.d.injEq, List.cons.injEq, exists_and_left, exists_and_right, exists_eq_left', exists_eq_left, exists_eq_right, exists_eq_right', exists_eq, exists_eq', and_true, true_and, and_assoc, and_self, exists_const, reduceCtorEq]
    refine ⟨h _ (List.getElem_mem hlt), ?_⟩
    simp
  · rintro τ2 ⟨c, rfl⟩
    exact hn c
theorem okSc {d : D} (h : d = .non ∨ (∃ b, d = .bl b) ∨ (∃ i, d = .int i) ∨ ∃ s, d = .str s) : OkD K d := by
  rcases h with rfl | ⟨b, rfl⟩ | ⟨i, rfl⟩ | ⟨s, rfl⟩ <;> (unfold OkD; trivial)
theorem pure__law_same {n : Nat} : PureD 2 1 (fs__law_same K (n + 1)) (w__law_same K (fs__law_same K n)) := by
  rintro cs q e - ⟨d, rfl, hs, hq⟩
  have ok : OkD K d := sameD_ok hs
  cases d with
  | non =>
    simp only [w__law_same, wAugOwn, wEnumL, wTru, wSlA, gCatA, gLtT, gLeT, wFrz, wChain3, wAttr, wMkF, wEnumT, wRevT, wDict0, wDict1, numD3, Nat.reduceAdd, atI0, atI1, atI2, atI3, atI4, ixN51, ixN52, ixN53, List.length_map, wNever, scal, V.int.injEq, V.str.injEq, V.bl.injEq, wSq, wNext, wBreak, wCont, wDrop, wRet, wRetN, wIfS, wAsg, wPar, wLstOwn, wAppend, wSetOwn, wIxOwn, wPeek, wRetOwn, wRetFr, wFor, wB, wNot, wAnd, wOr, wAndV, wOrV, wNotV, wIf, wChain, wNil, wCons, wCB, wTup, wLst, wNoPart, wPart, wSlT, wSlL, wSeq, wRng1, wRng2, wZip, wName, wNilT, wConsT, wTupT, wYes, wNeg, wVar, wC, wOp, wcNil, wcCons, wcOwn, wCall, wCallOwn, slots, cellsOf, OwnArgs, putBack, g2I, g2IC, gLen, gAbs, gGcd, gInt1, gTupleOf, gListOf, gIx, gCatT, gCat, gEq, gNe, gIsN, gNotN, scD, seqD_t, seqD_l, seqD_f, isNonD, List.nodup_cons, List.mem_cons, List.not_mem_nil, or_false, not_false_eq_true, Nat.reduceEqDiff, L3.Keeps, ends, wipeD, List.replicate, List.cons_append, List.nil_append, List.append_nil, List.getElem?_cons_zero, List.getElem?_cons_succ, List.set_cons_zero, List.set_cons_succ, List.getD_cons_zero, List.getD_cons_succ, List.length_cons, List.length_nil, List.nodup_nil, Option.some.injEq, Cell.dat.injEq, Cell.own.injEq, Cont.lst.injEq, D.bl.injEq, D.int.injEq, D.str.injEq, D.tup.injEq, D.lst.injEq, Arg.d.injEq, List.cons.injEq, exists_and_left, exists_and_right, exists_eq_left', exists_eq_left, exists_eq_right, exists_eq_right', exists_eq, exists_eq', and_true, true_and, and_assoc, and_self, exists_const, reduceCtorEq]
    simpa using hq
  | bl b =>
    simp only [w__law_same, gIsi_iff ok (show "bool" ∈ kinds by simp), isiD, wAugOwn, wEnumL, wTru, wSlA, gCatA, gLtT, gLeT, wFrz, wChain3, wAttr, wMkF, wEnumT, wRevT, wDict0, wDict1, numD3, Nat.reduceAdd, atI0, atI1, atI2, atI3, atI4, ixN51, ixN52, ixN53, List.length_map, wNever, scal, V.int.injEq, V.str.injEq, V.bl.injEq, wSq, wNext, wBreak, wCont, wDrop, wRet, wRetN, wIfS, wAsg, wPar, wLstOwn, wAppend, wSetOwn, wIxOwn, wPeek, wRetOwn, wRetFr, wFor, wB, wNot, wAnd, wOr, wAndV, wOrV, wNotV, wIf, wChain, wNil, wCons, wCB, wTup, wLst, wNoPart, wPart, wSlT, wSlL, wSeq, wRng1, wRng2, wZip, wName, wNilT, wConsT, wTupT, wYes, wNeg, wVar, wC, wOp, wcNil, wcCons, wcOwn, wCall, wCallOwn, slots, cellsOf, OwnArgs, putBack, g2I, g2IC, gLen, gAbs, gGcd, gInt1, gTupleOf, gListOf, gIx, gCatT, gCat, gEq, gNe, gIsN, gNotN, scD, seqD_t, seqD_l, seqD_f, isNonD, List.nodup_cons, List.mem_cons, List.not_mem_nil, or_false, not_false_eq_true, Nat.reduceEqDiff, L3.Keeps, ends, wipeD, List.replicate, List.cons_append, List.nil_append, List.append_nil, List.getElem?_cons_zero, List.getElem?_cons_succ, List.set_cons_zero, List.set_cons_succ, List.getD_cons_zero, List.getD_cons_succ, List.length_cons, List.length_nil, List.nodup_nil, Option.some.injEq, Cell.dat.injEq, Cell.own.injEq, Cont.lst.injEq, D.bl.injEq, D.int.injEq, D.str.injEq, D.tup.injEq, D.lst.injEq, Arg.d.injEq, List.cons.injEq, exists_and_left, exists_and_right, exists_eq_left', exists_eq_left, exists_eq_right, exists_eq_right', exists_eq, exists_eq', and_true, true_and, and_assoc, and_self, exists_const, reduceCtorEq]
    simp
    exact gEqD_refl (p := .bool b) rfl rfl hq
  | int i =>
    simp only [w__law_same, gIsi_iff ok (show "int" ∈ kinds by simp), gIsi_iff ok (show "bool" ∈ kinds by simp), isiD, wAugOwn, wEnumL, wTru, wSlA, gCatA, gLtT, gLeT, wFrz, wChain3, wAttr, wMkF, wEnumT, wRevT, wDict0, wDict1, numD3, Nat.reduceAdd, atI0, atI1, atI2, atI3, atI4, ixN51, ixN52, ixN53, List.length_map, wNever, scal, V.int.injEq, V.str.injEq, V.bl.injEq, wSq, wNext, wBreak, wCont, wDrop, wRet, wRetN, wIfS, wAsg, wPar, wLstOwn, wAppend, wSetOwn, wIxOwn, wPeek, wRetOwn, wRetFr, wFor, wB, wNot, wAnd, wOr, wAndV, wOrV, wNotV, wIf, wChain, wNil, wCons, wCB, wTup, wLst, wNoPart, wPart, wSlT, wSlL, wSeq, wRng1, wRng2, wZip, wName, wNilT, wConsT, wTupT, wYes, wNeg, wVar, wC, wOp, wcNil, wcCons, wcOwn, wCall, wCallOwn, slots, cellsOf, OwnArgs, putBack, g2I, g2IC, gLen, gAbs, gGcd, gInt1, gTupleOf, gListOf, gIx, gCatT, gCat, gEq, gNe, gIsN, gNotN, scD, seqD_t, seqD_l, seqD_f, isNonD, List.nodup_cons, List.mem_cons, List.not_mem_nil, or_false, not_false_eq_true, Nat.reduceEqDiff, L3.Keeps, ends, wipeD, List.replicate, List.cons_append, List.nil_append, List.append_nil, List.getElem?_cons_zero, List.getElem?_cons_succ, List.set_cons_zero, List.set_cons_succ, List.getD_cons_zero, List.getD_cons_succ, List.length_cons, List.length_nil, List.nodup_nil, Option.some.injEq, Cell.dat.injEq, Cell.own.injEq, Cont.lst.injEq, D.bl.injEq, D.int.injEq, D.str.injEq, D.tup.injEq, D.lst.injEq, Arg.d.injEq, List.cons.injEq, exists_and_left, exists_and_right, exists_eq_left', exists_eq_left, exists_eq_right, exists_eq_right', exists_eq, exists_eq', and_true, true_and, and_assoc, and_self, exists_const, reduceCtorEq]
    simp
    exact gEqD_refl (p := .int i) rfl rfl hq
  | str x =>
    simp only [w__law_same, gIsi_iff ok (show "int" ∈ kinds by simp), gIsi_iff ok (show "bool" ∈ kinds by simp), gIsi_iff ok (show "str" ∈ kinds by simp), isiD, wAugOwn, wEnumL, wTru, wSlA, gCatA, gLtT, gLeT, wFrz, wChain3, wAttr, wMkF, wEnumT, wRevT, wDict0, wDict1, numD3, Nat.reduceAdd, atI0, atI1, atI2, atI3, atI4, ixN51, ixN52, ixN53, List.length_map, wNever, scal, V.int.injEq, V.str.injEq, V.bl.injEq, wSq, wNext, wBreak, wCont, wDrop, wRet, wRetN, wIfS, wAsg, wPar, wLstOwn, wAppend, wSetOwn, wIxOwn, wPeek, wRetOwn, wRetFr, wFor, wB, wNot, wAnd, wOr, wAndV, wOrV, wNotV, wIf, wChain, wNil, wCons, wCB, wTup, wLst, wNoPart, wPart, wSlT, wSlL, wSeq, wRng1, wRng2, wZip, wName, wNilT, wConsT, wTupT, wYes, wNeg, wVar, wC, wOp, wcNil, wcCons, wcOwn, wCall, wCallOwn, slots, cellsOf, OwnArgs, putBack, g2I, g2IC, gLen, gAbs, gGcd, gInt1, gTupleOf, gListOf, gIx, gCatT, gCat, gEq, gNe, gIsN, gNotN, scD, seqD_t, seqD_l, seqD_f, isNonD, List.nodup_cons, List.mem_cons, List.not_mem_nil, or_false, not_false_eq_true, Nat.reduceEqDiff, L3.Keeps, ends, wipeD, List.replicate, List.cons_append, List.nil_append, List.append_nil, List.getElem?_cons_zero, List.getElem?_cons_succ, List.set_cons_zero, List.set_cons_succ, List.getD_cons_zero, List.getD_cons_succ, List.length_cons, List.length_nil, List.nodup_nil, Option.some.injEq, Cell.dat.injEq, Cell.own.injEq, Cont.lst.injEq, D.bl.injEq, D.int.injEq, D.str.injEq, D.tup.injEq, D.lst.injEq, Arg.d.injEq, List.cons.injEq, exists_and_left, exists_and_right, exists_eq_left', exists_eq_left, exists_eq_right, exists_eq_right', exists_eq, exists_eq', and_true, true_and, and_assoc, and_self, exists_const, reduceCtorEq]
    simp
    exact gEqD_refl (p := .str x) rfl hs hq
  | tup ds =>
    simp only [w__law_same, gIsi_iff ok (show "int" ∈ kinds by simp), gIsi_iff ok (show "bool" ∈ kinds by simp), gIsi_iff ok (show "str" ∈ kinds by simp), gIsi_iff ok (show "tuple" ∈ kinds by simp), gIsi_iff ok (show "list" ∈ kinds by simp), isiD, seqD_t, wAugOwn, wEnumL, wTru, wSlA, gCatA, gLtT, gLeT, wFrz, wChain3, wAttr, wMkF, wEnumT, wRevT, wDict0, wDict1, numD3, Nat.reduceAdd, atI0, atI1, atI2, atI3, atI4, ixN51, ixN52, ixN53, List.length_map, wNever, scal, V.int.injEq, V.str.injEq, V.bl.injEq, wSq, wNext, wBreak, wCont, wDrop, wRet, wRetN, wIfS, wAsg, wPar, wLstOwn, wAppend, wSetOwn, wIxOwn, wPeek, wRetOwn, wRetFr, wFor, wB, wNot, wAnd, wOr, wAndV, wOrV, wNotV, wIf, wChain, wNil, wCons, wCB, wTup, wLst, wNoPart, wPart, wSlT, wSlL, wSeq, wRng1, wRng2, wZip, wName, wNilT, wConsT, wTupT, wYes, wNeg, wVar, wC, wOp, wcNil, wcCons, wcOwn, wCall, wCallOwn, slots, cellsOf, OwnArgs, putBack, g2I, g2IC, gLen, gAbs, gGcd, gInt1, gTupleOf, gListOf, gIx, gCatT, gCat, gEq, gNe, gIsN, gNotN, scD, seqD_t, seqD_l, seqD_f, isNonD, List.nodup_cons, List.mem_cons, List.not_mem_nil, or_false, not_false_eq_true, Nat.reduceEqDiff, L3.Keeps, ends, wipeD, List.replicate, List.cons_append, List.nil_append, List.append_nil, List.getElem?_cons_zero, List.getElem?_cons_succ, List.set_cons_zero, List.set_cons_succ, List.getD_cons_zero, List.getD_cons_succ, List.length_cons, List.length_nil, List.nodup_nil, Option.some.injEq, Cell.dat.injEq, Cell.own.injEq, Cont.lst.injEq, D.bl.injEq, D.int.injEq, D.str.injEq, D.tup.injEq, D.lst.injEq, Arg.d.injEq, List.cons.injEq, exists_and_left, exists_and_right, exists_eq_left', exists_eq_left, exists_eq_right, exists_eq_right', exists_eq, exists_eq', and_true, true_and, and_assoc, and_self, exists_const, reduceCtorEq]
    simp
    exact l1__law_same_ok rfl hs.1 hs.2 fun c => ⟨trivial, hq⟩
  | lst ds =>
    simp only [w__law_same, gIsi_iff ok (show "int" ∈ kinds by simp), gIsi_iff ok (show "bool" ∈ kinds by simp), gIsi_iff ok (show "str" ∈ kinds by simp), gIsi_iff ok (show "tuple" ∈ kinds by simp), gIsi_iff ok (show "list" ∈ kinds by simp), isiD, seqD_l, wAugOwn, wEnumL, wTru, wSlA, gCatA, gLtT, gLeT, wFrz, wChain3, wAttr, wMkF, wEnumT, wRevT, wDict0, wDict1, numD3, Nat.reduceAdd, atI0, atI1, atI2, atI3, atI4, ixN51, ixN52, ixN53, List.length_map, wNever, scal, V.int.injEq, V.str.injEq, V.bl.injEq, wSq, wNext, wBreak, wCont, wDrop, wRet, wRetN, wIfS, wAsg, wPar, wLstOwn, wAppend, wSetOwn, wIxOwn, wPeek, wRetOwn, wRetFr, wFor, wB, wNot, wAnd, wOr, wAndV, wOrV, wNotV, wIf, wChain, wNil, wCons, wCB, wTup, wLst, wNoPart, wPart, wSlT, wSlL, wSeq, wRng1, wRng2, wZip, wName, wNilT, wConsT, wTupT, wYes, wNeg, wVar, wC, wOp, wcNil, wcCons, wcOwn, wCall, wCallOwn, slots, cellsOf, OwnArgs, putBack, g2I, g2IC, gLen, gAbs, gGcd, gInt1, gTupleOf, gListOf, gIx, gCatT, gCat, gEq, gNe, gIsN, gNotN, scD, seqD_t, seqD_l, seqD_f, isNonD, List.nodup_cons, List.mem_cons, List.not_mem_nil, or_false, not_false_eq_true, Nat.reduceEqDiff, L3.Keeps, ends, wipeD, List.replicate, List.cons_append, List.nil_append, List.append_nil, List.getElem?_cons_zero, List.getElem?_cons_succ, List.set_cons_zero, List.set_cons_succ, List.getD_cons_zero, List.getD_cons_succ, List.length_cons, List.length_nil, List.nodup_nil, Option.some.injEq, Cell.dat.injEq, Cell.own.injEq, Cont.lst.injEq, D.bl.injEq, D.int.injEq, D.str.injEq, D.tup.injEq, D.lst.injEq, Arg.d.injEq, List.cons.injEq, exists_and_left, exists_and_right, exists_eq_left', exists_eq_left, exists_eq_right, exists_eq_right', exists_eq, exists_eq', and_true, true_and, and_assoc, and_self, exists_const, reduceCtorEq]
    simp
    exact l1__law_same_ok rfl hs.1 hs.2 fun c => ⟨trivial, hq⟩
  | fl _ => exact hs.elim
  | ty _ => exact hs.elim
  | oth _ => exact hs.elim
  | ins _ _ => exact hs.elim
theorem no__law_same {cs : List Cell} {q : D → List Cell → Prop} {e : Xn → List Cell → Prop} (h : fs__law_same K 0 cs q e) : False := by
  obtain ⟨d, _, hs, _⟩ := h
  exact hs
theorem ok__law_same (T : Txt K mg) : ∀ n, FnOk P w K mg base (L2.CX P w) n T.f__law_same T.fd__law_same ["actual", "expected"] (spOf K 2 (fs__law_same K n))
  | 0 => ⟨fun vs H Q E h => h.1, fun A outer s H args us vs Q E _ _ _ _ ⟨_, _, _, _, _, _, h, _⟩ => (no__law_same h).elim⟩
  | n + 1 => by
    have ih := ok__law_same T n
    refine def_ok T.F__law_same sc__law_same (wb := w__law_same K (fs__law_same K n)) pure__law_same ?_
    intro cdv A outer s H E hr tk
    exact ⟨_, (pss_cons (ps_if (pt_cmpR op_isN (pv 1) pe_non (nomark _))
        (pss_one (ps_ret (pe_cmpR op_isN (pv 0) pe_non (nomark _))))
        pss_nil)
      (pss_cons (ps_if (pt_val (pe_callB call_isi (by rfl) T.z_isinstance (by decide +kernel) (pa_cons (pv 1) (pa_cons (pe_bltn (v := .ty "bool") (by rfl) T.z_bool (by decide +kernel) rfl) pa_nil))))
        (pss_one (ps_ret (pe_and (pe_callB call_isi (by rfl) T.z_isinstance (by decide +kernel) (pa_cons (pv 0) (pa_cons (pe_bltn (v := .ty "bool") (by rfl) T.z_bool (by decide +kernel) rfl) pa_nil))) (pe_one (pe_cmpR (op_eqD hr.units) (pv 0) (pv 1) (nomark _))))))
        pss_nil)
      (pss_cons (ps_if (pt_val (pe_callB call_isi (by rfl) T.z_isinstance (by decide +kernel) (pa_cons (pv 1) (pa_cons (pe_bltn (v := .ty "int") (by rfl) T.z_int (by decide +kernel) rfl) pa_nil))))
        (pss_one (ps_ret (pe_and (pe_callB call_isi (by rfl) T.z_isinstance (by decide +kernel) (pa_cons (pv 0) (pa_cons (pe_bltn (v := .ty "int") (by rfl) T.z_int (by decide +kernel) rfl) pa_nil))) (pe_and (pe_not (pe_callB call_isi (by rfl) T.z_isinstance (by decide +kernel) (pa_cons (pv 0) (pa_cons (pe_bltn (v := .ty "bool") (by rfl) T.z_bool (by decide +kernel) rfl) pa_nil)))) (pe_one (pe_cmpR (op_eqD hr.units) (pv 0) (pv 1) (nomark _)))))))
        pss_nil)
      (pss_cons (ps_if (pt_val (pe_callB call_isi (by rfl) T.z_isinstance (by decide +kernel) (pa_cons (pv 1) (pa_cons (pe_bltn (v := .ty "str") (by rfl) T.z_str (by decide +kernel) rfl) pa_nil))))
        (pss_one (ps_ret (pe_and (pe_callB call_isi (by rfl) T.z_isinstance (by decide +kernel) (pa_cons (pv 0) (pa_cons (pe_bltn (v := .ty "str") (by rfl) T.z_str (by decide +kernel) rfl) pa_nil))) (pe_one (pe_cmpR (op_eqD hr.units) (pv 0) (pv 1) (nomark _))))))
        pss_nil)
      (pss_cons (ps_if (PW.pt (pw_and (pt_val (pe_callB call_isi (by rfl) T.z_isinstance (by decide +kernel) (pa_cons (pv 1) (pa_cons (pe_bltn (v := .ty "tuple") (by rfl) T.z_tuple (by decide +kernel) rfl) pa_nil)))) (pw_and1 (pt_not (pt_val (pe_callB call_isi (by rfl) T.z_isinstance (by decide +kernel) (pa_cons (pv 0) (pa_cons (pe_bltn (v := .ty "tuple") (by rfl) T.z_tuple (by decide +kernel) rfl) pa_nil))))))))
        (pss_one (ps_ret pe_bl))
        pss_nil)
      (pss_cons (ps_if (PW.pt (pw_and (pt_val (pe_callB call_isi (by rfl) T.z_isinstance (by decide +kernel) (pa_cons (pv 1) (pa_cons (pe_bltn (v := .ty "list") (by rfl) T.z_list (by decide +kernel) rfl) pa_nil)))) (pw_and1 (pt_not (pt_val (pe_callB call_isi (by rfl) T.z_isinstance (by decide +kernel) (pa_cons (pv 0) (pa_cons (pe_bltn (v := .ty "list") (by rfl) T.z_list (by decide +kernel) rfl) pa_nil))))))))
        (pss_one (ps_ret pe_bl))
        pss_nil)
      (pss_cons (ps_if (pt_cmpR op_ne (pe_callB call_len_seq (by rfl) T.z_len (by decide +kernel) (pa_cons (pv 0) pa_nil)) (pe_callB call_len_seq (by rfl) T.z_len (by decide +kernel) (pa_cons (pv 1) pa_nil)) (nomark _))
        (pss_one (ps_ret pe_bl))
        pss_nil)
      (pss_cons (ps_for (passes_of rfl) rfl (pi_range1 (by rfl) T.z_range (pa_cons (pe_callB call_len_seq (by rfl) T.z_len (by decide +kernel) (pa_cons (pv 1) pa_nil)) pa_nil)) (pg_name (i := 2) sc__law_same.nd rfl (by first | exact Or.inl rfl | exact Or.inr rfl))
        (pss_one (ps_if (pt_not (pt_val (pe_callS ih hr rfl T.g__law_same T.k__law_same T.b__law_same (fun σ => passAt tk σ) (pa_cons (pe_ix ix_seq (pv 0) (pv 2) (fun _ _ => rfl)) (pa_cons (pe_ix ix_seq (pv 1) (pv 2) (fun _ _ => rfl)) pa_nil)))))
        (pss_one (ps_ret pe_bl))
        pss_nil)))
      (pss_one (ps_ret pe_bl)))))))))),
      (ds_seq (ds_if (dt_B (de_op o_isN (de_var 1) de_non)) (ds_ret (de_op o_isN (de_var 0) de_non)) ds_nil)
      (ds_seq (ds_if (dt_B (de_cb o_isi (da_cons (de_var 1) (da_cons de_ty da_nil)))) (ds_ret (de_and (de_cb o_isi (da_cons (de_var 0) (da_cons de_ty da_nil))) (de_op o_eqD (de_var 0) (de_var 1)))) ds_nil)
      (ds_seq (ds_if (dt_B (de_cb o_isi (da_cons (de_var 1) (da_cons de_ty da_nil)))) (ds_ret (de_and (de_cb o_isi (da_cons (de_var 0) (da_cons de_ty da_nil))) (de_and (de_not (de_cb o_isi (da_cons (de_var 0) (da_cons de_ty da_nil)))) (de_op o_eqD (de_var 0) (de_var 1))))) ds_nil)
      (ds_seq (ds_if (dt_B (de_cb o_isi (da_cons (de_var 1) (da_cons de_ty da_nil)))) (ds_ret (de_and (de_cb o_isi (da_cons (de_var 0) (da_cons de_ty da_nil))) (de_op o_eqD (de_var 0) (de_var 1)))) ds_nil)
      (ds_seq (ds_if (dt_and (dt_B (de_cb o_isi (da_cons (de_var 1) (da_cons de_ty da_nil)))) (dt_not (dt_B (de_cb o_isi (da_cons (de_var 0) (da_cons de_ty da_nil)))))) (ds_ret de_bl) ds_nil)
      (ds_seq (ds_if (dt_and (dt_B (de_cb o_isi (da_cons (de_var 1) (da_cons de_ty da_nil)))) (dt_not (dt_B (de_cb o_isi (da_cons (de_var 0) (da_cons de_ty da_nil)))))) (ds_ret de_bl) ds_nil)
      (ds_seq (ds_if (dt_B (de_op o_ne (de_cb o_len (da_cons (de_var 0) da_nil)) (de_cb o_len (da_cons (de_var 1) da_nil)))) (ds_ret de_bl) ds_nil)
      (ds_seq (ds_for (wI := (wRng1 (wCons (wCB gLen (wCons (wVar 1) wNil)) wNil))) (wg := (wName 2)) (wb := (wIfS (wNot (wB (wCall 2 (fs__law_same K n) (wcCons (wOp gIx (wVar 0) (wVar 2)) (wcCons (wOp gIx (wVar 1) (wVar 2)) wcNil))))) (wRet (wC (.bl false))) wNext)) (di_rng1 (da_cons (de_cb o_len (da_cons (de_var 1) da_nil)) da_nil)) (dg_name 2) (ds_if (dt_not (dt_B (de_call (n := 2) (fs := fs__law_same K n) (dac_cons (de_op o_ix (de_var 0) (de_var 2)) (dac_cons (de_op o_ix (de_var 1) (de_var 2)) dac_nil))))) (ds_ret de_bl) ds_nil))
      (ds_ret de_bl)))))))))⟩
abbrev s__law_met : Stmt := topS 51
theorem sc__law_met : FnScope ["found", "due"] ["found", "due"] (defScope s__law_met) := ⟨rfl, rfl, rfl, by decide +kernel, rfl, by decide +kernel, by decide +kernel⟩
def w__law_met (K : PySem.W.Frag) : SW := (wSq (wIfS (wB (wOp gNeD (wOp gIx (wVar 0) (wC (.int 0))) (wOp gIx (wVar 1) (wC (.int 0))))) (wRet (wC (.bl false))) wNext)
  (wSq (wIfS (wAnd (wB (wOp gEq (wOp gIx (wVar 0) (wC (.int 0))) (wC (.str "refused")))) (wB (wOp gNeD (wOp gIx (wVar 0) (wC (.int 1))) (wOp gIx (wVar 1) (wC (.int 1)))))) (wRet (wC (.bl false))) wNext)
  (wRet (wCall 2 (fs__law_same K 3) (wcCons (wOp gIx (wVar 0) (wNeg (wC (.int 1)))) (wcCons (wOp gIx (wVar 1) (wNeg (wC (.int 1)))) wcNil))))))
def fs__law_met (K : PySem.W.Frag) : FS := fun cs q _ => ∃ d : D, cs = [.dat d, .dat d] ∧ ((∃ x : D, SameD 3 x ∧ d = .tup [.str "told", x]) ∨ (∃ (a b c : Bool) (n : Int), d = .tup [.str "refused", .lst [.bl a, .bl b, .bl c], .int n]) ∨ (∃ (a b : Bool) (n : Int), d = .tup [.str "refused", .lst [.bl a, .bl b], .int n])) ∧ q (.bl true) cs
theorem pure__law_met : PureD 2 0 (fs__law_met K) (w__law_met K) := by
  rintro cs q e - ⟨d, rfl, (⟨x, hx, rfl⟩ | ⟨a, b, c, n, rfl⟩ | ⟨a, b, n, rfl⟩), hq⟩
  · simp only [w__law_met, fs__law_same, atIm1_2, wAugOwn, wEnumL, wTru, wSlA, gCatA, gLtT, gLeT, wFrz, wChain3, wAttr, wMkF, wEnumT, wRevT, wDict0, wDict1, numD3, Nat.reduceAdd, atI0, atI1, atI2, atI3, atI4, ixN51, ixN52, ixN53, List.length_map, wNever, scal, V.int.injEq, V.str.injEq, V.bl.injEq, wSq, wNext, wBreak, wCont, wDrop, wRet, wRetN, wIfS, wAsg, wPar, wLstOwn, wAppend, wSetOwn, wIxOwn, wPeek, wRetOwn, wRetFr, wFor, wB, wNot, wAnd, wOr, wAndV, wOrV, wNotV, wIf, wChain, wNil, wCons, wCB, wTup, wLst, wNoPart, wPart, wSlT, wSlL, wSeq, wRng1, wRng2, wZip, wName, wNilT, wConsT, wTupT, wYes, wNeg, wVar, wC, wOp, wcNil, wcCons, wcOwn, wCall, wCallOwn, slots, cellsOf, OwnArgs, putBack, g2I, g2IC, gLen, gAbs, gGcd, gInt1, gTupleOf, gListOf, gIx, gCatT, gCat, gEq, gNe, gIsN, gNotN, scD, seqD_t, seqD_l, seqD_f, isNonD, List.nodup_cons, List.mem_cons, List.not_mem_nil, or_false, not_false_eq_true, Nat.reduceEqDiff, L3.Keeps, ends, wipeD, List.replicate, List.cons_append, List.nil_append, List.append_nil, List.getElem?_cons_zero, List.getElem?_cons_succ, List.set_cons_zero, List.set_cons_succ, List.getD_cons_zero, List.getD_cons_succ, List.length_cons, List.length_nil, List.nodup_nil, Option.some.injEq, Cell.dat.injEq, Cell.own.injEq, Cont.lst.injEq, D.bl.injEq, D.int.injEq, D.str.injEq, D.tup.injEq, D.lst.injEq, Arg.d.injEq, List.cons.injEq, exists_and_left, exists_and_right, exists_eq_left', exists_eq_left, exists_eq_right, exists_eq_right', exists_eq, exists_eq', and_true, true_and, and_assoc, and_self, exists_const, reduceCtorEq]
    refine gNeD_refl (p := .str "told") rfl (by decide +kernel) ?_
    have ne : ¬ (Str.ofString "told" = Str.ofString "refused") := by decide +kernel
    simp [ne]
    exact ⟨hx, hq⟩
  · simp only [w__law_met, fs__law_same, atIm1_3, wAugOwn, wEnumL, wTru, wSlA, gCatA, gLtT, gLeT, wFrz, wChain3, wAttr, wMkF, wEnumT, wRevT, wDict0, wDict1, numD3, Nat.reduceAdd, atI0, atI1, atI2, atI3, atI4, ixN51, ixN52, ixN53, List.length_map, wNever, scal, V.int.injEq, V.str.injEq, V.bl.injEq, wSq, wNext, wBreak, wCont, wDrop, wRet, wRetN, wIfS, wAsg, wPar, wLstOwn, wAppend, wSetOwn, wIxOwn, wPeek, wRetOwn, wRetFr, wFor, wB, wNot, wAnd, wOr, wAndV, wOrV, wNotV, wIf, wChain, wNil, wCons, wCB, wTup, wLst, wNoPart, wPart, wSlT, wSlL, wSeq, wRng1, wRng2, wZip, wName, wNilT, wConsT, wTupT, wYes, wNeg, wVar, wC, wOp, wcNil, wcCons, wcOwn, wCall, wCallOwn, slots, cellsOf, OwnArgs, putBack, g2I, g2IC, gLen, gAbs, gGcd, gInt1, gTupleOf, gListOf, gIx, gCatT, gCat, gEq, gNe, gIsN, gNotN, scD, seqD_t, seqD_l, seqD_f, isNonD, List.nodup_cons, List.mem_cons, List.not_mem_nil, or_false, not_false_eq_true, Nat.reduceEqDiff, L3.Keeps, ends, wipeD, List.replicate, List.cons_append, List.nil_append, List.append_nil, List.getElem?_cons_zero, List.getElem?_cons_succ, List.set_cons_zero, List.set_cons_succ, List.getD_cons_zero, List.getD_cons_succ, List.length_cons, List.length_nil, List.nodup_nil, Option.some.injEq, Cell.dat.injEq, Cell.own.injEq, Cont.lst.injEq, D.bl.injEq, D.int.injEq, D.str.injEq, D.tup.injEq, D.lst.injEq, Arg.d.injEq, List.cons.injEq, exists_and_left, exists_and_right, exists_eq_left', exists_eq_left, exists_eq_right, exists_eq_right', exists_eq, exists_eq', and_true, true_and, and_assoc, and_self, exists_const, reduceCtorEq]
    refine gNeD_refl (p := .str "refused") rfl (by decide +kernel) ?_
    simp
    refine gNeD_refl (p := .list [.bool a, .bool b, .bool c]) rfl (by cases a <;> cases b <;> cases c <;> decide +kernel) ?_
    exact .inl ⟨rfl, trivial, hq⟩
  · simp only [w__law_met, fs__law_same, atIm1_3, wAugOwn, wEnumL, wTru, wSlA, gCatA, gLtT, gLeT, wFrz, wChain3, wAttr, wMkF, wEnumT, wRevT, wDict0, wDict1, numD3, Nat.reduceAdd, atI0, atI1, atI2, atI3, atI4, ixN51, ixN52, ixN53, List.length_map, wNever, scal, V.int.injEq, V.str.injEq, V.bl.injEq, wSq, wNext, wBreak, wCont, wDrop, wRet, wRetN, wIfS, wAsg, wPar, wLstOwn, wAppend, wSetOwn, wIxOwn, wPeek, wRetOwn, wRetFr, wFor, wB, wNot, wAnd, wOr, wAndV, wOrV, wNotV, wIf, wChain, wNil, wCons, wCB, wTup, wLst, wNoPart, wPart, wSlT, wSlL, wSeq, wRng1, wRng2, wZip, wName, wNilT, wConsT, wTupT, wYes, wNeg, wVar, wC, wOp, wcNil, wcCons, wcOwn, wCall, wCallOwn, slots, cellsOf, OwnArgs, putBack, g2I, g2IC, gLen, gAbs, gGcd, gInt1, gTupleOf, gListOf, gIx, gCatT, gCat, gEq, gNe, gIsN, gNotN, scD, seqD_t, seqD_l, seqD_f, isNonD, List.nodup_cons, List.mem_cons, List.not_mem_nil, or_false, not_false_eq_true, Nat.reduceEqDiff, L3.Keeps, ends, wipeD, List.replicate, List.cons_append, List.nil_append, List.append_nil, List.getElem?_cons_zero, List.getElem?_cons_succ, List.set_cons_zero, List.set_cons_succ, List.getD_cons_zero, List.getD_cons_succ, List.length_cons, List.length_nil, List.nodup_nil, Option.some.injEq, Cell.dat.injEq, Cell.own.injEq, Cont.lst.injEq, D.bl.injEq, D.int.injEq, D.str.injEq, D.tup.injEq, D.lst.injEq, Arg.d.injEq, List.cons.injEq, exists_and_left, exists_and_right, exists_eq_left', exists_eq_left, exists_eq_right, exists_eq_right', exists_eq, exists_eq', and_true, true_and, and_assoc, and_self, exists_const, reduceCtorEq]
    refine gNeD_refl (p := .str "refused") rfl (by decide +kernel) ?_
    simp
    refine gNeD_refl (p := .list [.bool a, .bool b]) rfl (by cases a <;> cases b <;> decide +kernel) ?_
    exact .inl ⟨rfl, trivial, hq⟩
theorem ok__law_met (T : Txt K mg) : FnOk P w K mg base (L2.CX P w) 4 T.f__law_met T.fd__law_met ["found", "due"] (spOf K 2 (fs__law_met K)) := by
  refine def_ok T.F__law_met sc__law_met (wb := w__law_met K) pure__law_met ?_
  intro cdv A outer s H E hr tk
  exact ⟨_, (pss_cons (ps_if (pt_cmpR (op_neD hr.units) (pe_ix ix_seq (pv 0) pe_int (fun _ _ => rfl)) (pe_ix ix_seq (pv 1) pe_int (fun _ _ => rfl)) (nomark _))
        (pss_one (ps_ret pe_bl))
        pss_nil)
      (pss_cons (ps_if (PW.pt (pw_and (pt_cmpR op_eq (pe_ix ix_seq (pv 0) pe_int (fun _ _ => rfl)) pe_str (nomark _)) (pw_and1 (pt_cmpR (op_neD hr.units) (pe_ix ix_seq (pv 0) pe_int (fun _ _ => rfl)) (pe_ix ix_seq (pv 1) pe_int (fun _ _ => rfl)) (nomark _)))))
        (pss_one (ps_ret pe_bl))
        pss_nil)
      (pss_one (ps_ret (pe_callS (ok__law_same T 3) (hr.mono (by decide)) rfl T.g__law_same T.k__law_same T.b__law_same (fun σ => passAt tk σ) (pa_cons (pe_ix ix_seq (pv 0) (pe_un un_neg pe_int) (fun _ _ => rfl)) (pa_cons (pe_ix ix_seq (pv 1) (pe_un un_neg pe_int) (fun _ _ => rfl)) pa_nil))))))),
    (ds_seq (ds_if (dt_B (de_op o_neD (de_op o_ix (de_var 0) de_int) (de_op o_ix (de_var 1) de_int))) (ds_ret de_bl) ds_nil)
      (ds_seq (ds_if (dt_and (dt_B (de_op o_eq (de_op o_ix (de_var 0) de_int) de_str)) (dt_B (de_op o_neD (de_op o_ix (de_var 0) de_int) (de_op o_ix (de_var 1) de_int)))) (ds_ret de_bl) ds_nil)
      (ds_ret (de_call (n := 2) (fs := (fs__law_same K 3)) (dac_cons (de_op o_ix (de_var 0) (de_neg de_int)) (dac_cons (de_op o_ix (de_var 1) (de_neg de_int)) dac_nil))))))⟩
abbrev s__law_integer : Stmt := topS 52
theorem sc__law_integer : FnScope ["thing"] ["thing"] (defScope s__law_integer) := ⟨rfl, rfl, rfl, by decide +kernel, rfl, by decide +kernel, by decide +kernel⟩
def w__law_integer (K : PySem.W.Frag) : SW := (wRet (wAndV (wCB (gIsi K) (wCons (wVar 0) (wCons (wC (.ty "int")) wNil))) (wNotV (wCB (gIsi K) (wCons (wVar 0) (wCons (wC (.ty "bool")) wNil))))))
def fs__law_integer (K : PySem.W.Frag) : FS := fun cs q _ => ∃ d, cs = [.dat d] ∧ OkD K d ∧ q (.bl (isIntD d)) [.dat d]
theorem pure__law_integer : PureD 1 0 (fs__law_integer K) (w__law_integer K) := by
  rintro cs q e - ⟨d, rfl, hd, hq⟩
  simp only [w__law_integer, gIsi_iff hd (show "int" ∈ kinds by simp), gIsi_iff hd (show "bool" ∈ kinds by simp), wAugOwn, wEnumL, wTru, wSlA, gCatA, gLtT, gLeT, wFrz, wChain3, wAttr, wMkF, wEnumT, wRevT, wDict0, wDict1, numD3, Nat.reduceAdd, atI0, atI1, atI2, atI3, atI4, ixN51, ixN52, ixN53, List.length_map, wNever, scal, V.int.injEq, V.str.injEq, V.bl.injEq, wSq, wNext, wBreak, wCont, wDrop, wRet, wRetN, wIfS, wAsg, wPar, wLstOwn, wAppend, wSetOwn, wIxOwn, wPeek, wRetOwn, wRetFr, wFor, wB, wNot, wAnd, wOr, wAndV, wOrV, wNotV, wIf, wChain, wNil, wCons, wCB, wTup, wLst, wNoPart, wPart, wSlT, wSlL, wSeq, wRng1, wRng2, wZip, wName, wNilT, wConsT, wTupT, wYes, wNeg, wVar, wC, wOp, wcNil, wcCons, wcOwn, wCall, wCallOwn, slots, cellsOf, OwnArgs, putBack, g2I, g2IC, gLen, gAbs, gGcd, gInt1, gTupleOf, gListOf, gIx, gCatT, gCat, gEq, gNe, gIsN, gNotN, scD, seqD_t, seqD_l, seqD_f, isNonD, List.nodup_cons, List.mem_cons, List.not_mem_nil, or_false, not_false_eq_true, Nat.reduceEqDiff, L3.Keeps, ends, wipeD, List.replicate, List.cons_append, List.nil_append, List.append_nil, List.getElem?_cons_zero, List.getElem?_cons_succ, List.set_cons_zero, List.set_cons_succ, List.getD_cons_zero, List.getD_cons_succ, List.length_cons, List.length_nil, List.nodup_nil, Option.some.injEq, Cell.dat.injEq, Cell.own.injEq, Cont.lst.injEq, D.bl.injEq, D.int.injEq, D.str.injEq, D.tup.injEq, D.lst.injEq, Arg.d.injEq, List.cons.injEq, exists_and_left, exists_and_right, exists_eq_left', exists_eq_left, exists_eq_right, exists_eq_right', exists_eq, exists_eq', and_true, true_and, and_assoc, and_self, exists_const, reduceCtorEq]
  cases d <;> simp_all [isiD, isIntD]
theorem ok__law_integer (T : Txt K mg) : FnOk P w K mg base (L2.CX P w) 1 T.f__law_integer T.fd__law_integer ["thing"] (spOf K 1 (fs__law_integer K)) := by
  refine def_ok T.F__law_integer sc__law_integer (wb := w__law_integer K) pure__law_integer ?_
  intro cdv A outer s H E hr tk
  exact ⟨_, (pss_one (ps_ret (pe_and (pe_callB call_isi (by rfl) T.z_isinstance (by decide +kernel) (pa_cons (pv 0) (pa_cons (pe_bltn (v := .ty "int") (by rfl) T.z_int (by decide +kernel) rfl) pa_nil))) (pe_one (pe_not (pe_callB call_isi (by rfl) T.z_isinstance (by decide +kernel) (pa_cons (pv 0) (pa_cons (pe_bltn (v := .ty "bool") (by rfl) T.z_bool (by decide +kernel) rfl) pa_nil)))))))),
    (ds_ret (de_and (de_cb o_isi (da_cons (de_var 0) (da_cons de_ty da_nil))) (de_not (de_cb o_isi (da_cons (de_var 0) (da_cons de_ty da_nil))))))⟩
abbrev s__law_deep : Stmt := topS 53
theorem sc__law_deep : FnScope ["many", "thing", "turn"] ["many"] (defScope s__law_deep) := ⟨rfl, rfl, rfl, by decide +kernel, rfl, by decide +kernel, by decide +kernel⟩
def l1__law_deep (K : PySem.W.Frag) : SW := wFor (wRng1 (wCons (wVar 0) wNil)) (wName 2) (wAsg (wTup (wCons (wVar 1) wNil)) (wName 1))
def w__law_deep (K : PySem.W.Frag) : SW := (wSq (wAsg (wTup wNil) (wName 1))
  (wSq (l1__law_deep K)
  (wRet (wVar 1))))
def deepD : Nat → D | 0 => .tup [] | n + 1 => .tup [deepD n]
def fs__law_deep (K : PySem.W.Frag) : FS := fun cs q _ => ∃ n : Nat, cs = [.dat (.int n)] ∧ n ≤ 100 ∧ q (deepD n) cs
def InvDeep (n : Nat) (i : Nat) (τ : List Cell) : Prop := ∃ c, τ = [.dat (.int n), .dat (deepD i), c]
theorem l1__law_deep_ok {n : Nat} {c : Cell} {E : EndsD} (hl : n ≤ 100) (hn : ∀ c, E.nx [.dat (.int n), .dat (deepD n), c]) : l1__law_deep K E [.dat (.int n), .dat (.tup []), c] := by
  unfold l1__law_deep wFor
  refine ⟨_, rfl, n, rfl, by omega, by omega, InvDeep n, ⟨c, rfl⟩, ?_, ?_⟩
  · rintro i d τ2 hi ⟨c, rfl⟩
    simp only [wAugOwn, wEnumL, wTru, wSlA, gCatA, gLtT, gLeT, wFrz, wChain3, wAttr, wMkF, wEnumT, wRevT, wDict0, wDict1, numD3, Nat.reduceAdd, atI0, atI1, atI2, atI3, atI4, ixN51, ixN52, ixN53, List.length_map, wNever, scal, V.int.injEq, V.str.injEq, V.bl.injEq, wSq, wNext, wBreak, wCont, wDrop, wRet, wRetN, wIfS, wAsg, wPar, wLstOwn, wAppend, wSetOwn, wIxOwn, wPeek, wRetOwn, wRetFr, wFor, wB, wNot, wAnd, wOr, wAndV, wOrV, wNotV, wIf, wChain, wNil, wCons, wCB, wTup, wLst, wNoPart, wPart, wSlT, wSlL, wSeq, wRng1, wRng2, wZip, wName, wNilT, wConsT, wTupT, wYes, wNeg, wVar, wC, wOp, wcNil, wcCons, wcOwn, wCall, wCallOwn, slots, cellsOf, OwnArgs, putBack, g2I, g2IC, gLen, gAbs, gGcd, gInt1, gTupleOf, gListOf, gIx, gCatT, gCat, gEq, gNe, gIsN, gNotN, scD, seqD_t, seqD_l, seqD_f, isNonD, List.nodup_cons, List.mem_cons, List.not_mem_nil, or_false, not_false_eq_true, Nat.reduceEqDiff, L3.Keeps, ends, wipeD, List.replicate, List.cons_append, List.nil_append, List.append_nil, List.getElem?_cons_zero, List.getElem?_cons_succ, List.set_cons_zero, List.set_cons_succ, List.getD_cons_zero, List.getD_cons_succ, List.length_cons, List.length_nil, List.nodup_nil, Option.some.injEq, Cell.dat.injEq, Cell.own.injEq, Cont.lst.injEq, D.bl.injEq, D.int.injEq, D.str.injEq, D.tup.injEq, D.lst.injEq, Arg.d.injEq, List.cons.injEq, exists_and_left, exists_and_right, exists_eq_left', exists_eq_left, exists_eq_right, exists_eq_right', exists_eq, exists_eq', and_true, true_and, and_assoc, and_self, exists_const, reduceCtorEq]
    exact ⟨by decide, Cell.dat d, rfl⟩
  · rintro τ2 ⟨c, rfl⟩
    rw [rangeD_length]
    exact hn c
theorem pure__law_deep : PureD 1 2 (fs__law_deep K) (w__law_deep K) := by
  rintro cs q e - ⟨n, rfl, hn, hq⟩
  simp only [w__law_deep, wAugOwn, wEnumL, wTru, wSlA, gCatA, gLtT, gLeT, wFrz, wChain3, wAttr, wMkF, wEnumT, wRevT, wDict0, wDict1, numD3, Nat.reduceAdd, atI0, atI1, atI2, atI3, atI4, ixN51, ixN52, ixN53, List.length_map, wNever, scal, V.int.injEq, V.str.injEq, V.bl.injEq, wSq, wNext, wBreak, wCont, wDrop, wRet, wRetN, wIfS, wAsg, wPar, wLstOwn, wAppend, wSetOwn, wIxOwn, wPeek, wRetOwn, wRetFr, wFor, wB, wNot, wAnd, wOr, wAndV, wOrV, wNotV, wIf, wChain, wNil, wCons, wCB, wTup, wLst, wNoPart, wPart, wSlT, wSlL, wSeq, wRng1, wRng2, wZip, wName, wNilT, wConsT, wTupT, wYes, wNeg, wVar, wC, wOp, wcNil, wcCons, wcOwn, wCall, wCallOwn, slots, cellsOf, OwnArgs, putBack, g2I, g2IC, gLen, gAbs, gGcd, gInt1, gTupleOf, gListOf, gIx, gCatT, gCat, gEq, gNe, gIsN, gNotN, scD, seqD_t, seqD_l, seqD_f, isNonD, List.nodup_cons, List.mem_cons, List.not_mem_nil, or_false, not_false_eq_true, Nat.reduceEqDiff, L3.Keeps, ends, wipeD, List.replicate, List.cons_append, List.nil_append, List.append_nil, List.getElem?_cons_zero, List.getElem?_cons_succ, List.set_cons_zero, List.set_cons_succ, List.getD_cons_zero, List.getD_cons_succ, List.length_cons, List.length_nil, List.nodup_nil, Option.some.injEq, Cell.dat.injEq, Cell.own.injEq, Cont.lst.injEq, D.bl.injEq, D.int.injEq, D.str.injEq, D.tup.injEq, D.lst.injEq, Arg.d.injEq, List.cons.injEq, exists_and_left, exists_and_right, exists_eq_left', exists_eq_left, exists_eq_right, exists_eq_right', exists_eq, exists_eq', and_true, true_and, and_assoc, and_self, exists_const, reduceCtorEq]
  refine ⟨by decide, l1__law_deep_ok hn fun c => ?_⟩
  simp only [wAugOwn, wEnumL, wTru, wSlA, gCatA, gLtT, gLeT, wFrz, wChain3, wAttr, wMkF, wEnumT, wRevT, wDict0, wDict1, numD3, Nat.reduceAdd, atI0, atI1, atI2, atI3, atI4, ixN51, ixN52, ixN53, List.length_map, wNever, scal, V.int.injEq, V.str.injEq, V.bl.injEq, wSq, wNext, wBreak, wCont, wDrop, wRet, wRetN, wIfS, wAsg, wPar, wLstOwn, wAppend, wSetOwn, wIxOwn, wPeek, wRetOwn, wRetFr, wFor, wB, wNot, wAnd, wOr, wAndV, wOrV, wNotV, wIf, wChain, wNil, wCons, wCB, wTup, wLst, wNoPart, wPart, wSlT, wSlL, wSeq, wRng1, wRng2, wZip, wName, wNilT, wConsT, wTupT, wYes, wNeg, wVar, wC, wOp, wcNil, wcCons, wcOwn, wCall, wCallOwn, slots, cellsOf, OwnArgs, putBack, g2I, g2IC, gLen, gAbs, gGcd, gInt1, gTupleOf, gListOf, gIx, gCatT, gCat, gEq, gNe, gIsN, gNotN, scD, seqD_t, seqD_l, seqD_f, isNonD, List.nodup_cons, List.mem_cons, List.not_mem_nil, or_false, not_false_eq_true, Nat.reduceEqDiff, L3.Keeps, ends, wipeD, List.replicate, List.cons_append, List.nil_append, List.append_nil, List.getElem?_cons_zero, List.getElem?_cons_succ, List.set_cons_zero, List.set_cons_succ, List.getD_cons_zero, List.getD_cons_succ, List.length_cons, List.length_nil, List.nodup_nil, Option.some.injEq, Cell.dat.injEq, Cell.own.injEq, Cont.lst.injEq, D.bl.injEq, D.int.injEq, D.str.injEq, D.tup.injEq, D.lst.injEq, Arg.d.injEq, List.cons.injEq, exists_and_left, exists_and_right, exists_eq_left', exists_eq_left, exists_eq_right, exists_eq_right', exists_eq, exists_eq', and_true, true_and, and_assoc, and_self, exists_const, reduceCtorEq]
  exact hq
theorem deep_ok : ∀ n, OkD K (deepD n)
  | 0 => by unfold deepD OkD OkDs; trivial
  | n + 1 => by unfold deepD OkD OkDs; exact ⟨deep_ok n, by unfold OkDs; trivial⟩
theorem ok__law_deep (T : Txt K mg) : FnOk P w K mg base (L2.CX P w) 1 T.f__law_deep T.fd__law_deep ["many"] (spOf K 1 (fs__law_deep K)) := by
  refine def_ok T.F__law_deep sc__law_deep (wb := w__law_deep K) pure__law_deep ?_
  intro cdv A outer s H E hr tk
  exact ⟨_, (pss_cons (ps_set (i := 1) sc__law_deep.nd rfl (by first | exact Or.inl rfl | exact Or.inr rfl) (pe_tup pa_nil))
      (pss_cons (ps_for (passes_of rfl) rfl (pi_range1 (by rfl) T.z_range (pa_cons (pv 0) pa_nil)) (pg_name (i := 2) sc__law_deep.nd rfl (by first | exact Or.inl rfl | exact Or.inr rfl))
        (pss_one (ps_set (i := 1) sc__law_deep.nd rfl (by first | exact Or.inl rfl | exact Or.inr rfl) (pe_tup (pa_cons (pv 1) pa_nil)))))
      (pss_one (ps_ret (pv 1))))),
    (ds_seq (ds_asg (de_tup da_nil) (dg_name 1))
      (ds_seq (ds_for (wI := (wRng1 (wCons (wVar 0) wNil))) (wg := (wName 2)) (wb := (wAsg (wTup (wCons (wVar 1) wNil)) (wName 1))) (di_rng1 (da_cons (de_var 0) da_nil)) (dg_name 2) (ds_asg (de_tup (da_cons (de_var 1) da_nil)) (dg_name 1)))
      (ds_ret (de_var 1))))⟩
abbrev s__law_strange : Stmt := topS 54
theorem sc__law_strange : FnScope ["source", "things"] ["source"] (defScope s__law_strange) := ⟨rfl, rfl, rfl, by decide +kernel, rfl, by decide +kernel, by decide +kernel⟩
def w__law_strange (K : PySem.W.Frag) (Z : CT) : SW := (wSq (wAsg (wLst (wCons (wC .non) (wCons (wC (.bl true)) (wCons (wC (.bl false)) (wCons (wC (.str "")) (wCons (wC (.str "1")) (wCons (wC (.str "a/2")) (wCons (wLst wNil) (wCons (wLst (wCons (wC (.int 1)) wNil)) (wCons (wLst (wCons (wTup (wCons (wC (.int 1)) (wCons (wC (.int 1)) wNil))) wNil)) (wCons (wTup wNil) (wCons (wTup (wCons (wC (.int 1)) wNil)) (wCons (wTup (wCons (wC (.int 1)) (wCons (wC (.int 1)) (wCons (wC (.int 1)) wNil)))) (wCons (wTup (wCons (wC (.int 2)) (wCons (wC (.int 4)) wNil))) (wCons (wTup (wCons (wC (.int 1)) (wCons (wC (.int 0)) wNil))) (wCons (wTup (wCons (wC (.int 1)) (wCons (wNeg (wC (.int 1))) wNil))) (wCons (wTup (wCons (wC (.int 0)) (wCons (wC (.int 1)) wNil))) (wCons (wTup (wCons (wNeg (wC (.int 1))) (wCons (wC (.int 2)) wNil))) wNil)))))))))))))))))) (wName 1))
  (wSq (wAsg (wOp gCat (wVar 1) (wLst (wCons (wTup (wCons (wC (.bl true)) (wCons (wC (.int 1)) wNil))) (wCons (wTup (wCons (wC (.int 1)) (wCons (wC (.bl true)) wNil))) (wCons (wTup (wCons (wC (.str "1")) (wCons (wC (.int 1)) wNil))) (wCons (wTup (wCons (wC .non) (wCons (wC (.int 1)) wNil))) (wCons (wTup (wCons (wTup (wCons (wC (.int 1)) (wCons (wC (.int 1)) wNil))) (wCons (wC (.int 1)) wNil))) (wCons wDict0 (wCons (wDict1 (wC (.str "a")) (wC (.int 1))) (wCons (wDict1 (wC (.int 1)) (wTup (wCons (wC (.int 2)) (wCons (wC (.int 3)) wNil)))) (wCons (wNeg (wC (.int 1))) (wCons (wC (.int 0)) (wCons (wC (.int 1)) (wCons (wC (.int 2)) (wCons (wC (.int 7)) (wCons (wC (.int 12)) (wCons (wC (.int 13)) wNil))))))))))))))))) (wName 1))
  (wSq (wAsg (wOp gCat (wVar 1) (wLst (wCons (wC (.int 37)) (wCons (wOp gPowI (wC (.int 10)) (wC (.int 39))) (wCons (wNeg (wOp gPowI (wC (.int 10)) (wC (.int 39)))) (wCons (wTup (wCons (wOp gPowI (wC (.int 10)) (wC (.int 39))) (wCons (wC (.int 1)) wNil))) (wCons (wTup (wCons (wC (.int 1)) (wCons (wOp gPowI (wC (.int 10)) (wC (.int 39))) wNil))) (wCons (wTup (wCons (wOp gAddI (wOp gPowI (wC (.int 10)) (wC (.int 6))) (wC (.int 1))) (wCons (wC (.int 1)) wNil))) (wCons (wTup (wCons (wC (.int 1)) (wCons (wC (.int 145)) wNil))) (wCons (wCall 1 (fs__law_deep K) (wcCons (wC (.int 32)) wcNil)) (wCons (wMkO Z.C_Web 2 (fs_Web__init__ K Z) (wCons (wTup (wCons (wC (.int 1)) wNil)) (wCons (wTup wNil) wNil))) wNil))))))))))) (wName 1))
  (wRet (wCall 2 (fs__law_pick K) (wcOwn 0 (wcCons (wVar 1) wcNil)))))))
def StrD (K : PySem.W.Frag) (d : D) : Prop := OkD K d
def fs__law_strange (K : PySem.W.Frag) (Z : CT) : FS := fun cs q _ => ∃ (p : Addr) (c : Cont), cs = [.own p c] ∧ SrcC c ∧ OkD K (.oth (.ref Z.C_Web)) ∧ ∀ (c' : Cont) (x : D), SrcC c' → StrD K x → q x [.own p c']
theorem pow39 : (10 : Int) ^ Int.toNat 39 = 1000000000000000000000000000000000000000 := by decide +kernel
theorem kit_dict : ∀ n ∈ kinds, kitB "dict" n = some false := by decide +kernel
theorem ok_dict : OkD K (.oth (.type "dict")) := by
  unfold OkD
  exact fun n hn => kit_ty (kit_dict n hn)
theorem bw1 : badWeb (.tup [.int 1]) (.tup []) = none := rfl
theorem pure__law_strange {Z : CT} : PureD 1 1 (fs__law_strange K Z) (w__law_strange K Z) := by
  rintro cs q e - ⟨p, c, rfl, hc, hw, hq⟩
  have cp : ∀ n : Int, 0 ≤ n → n ≤ 100 → CPow 10 n := fun n a b => ⟨a, by omega, by decide⟩
  have c39 := cp 39 (by decide) (by decide)
  have c6 := cp 6 (by decide) (by decide)
  simp only [w__law_strange, fs__law_pick, fs__law_deep, fs_Web__init__, bw1, wMkO, wDict1, keyD, seqD_l, pow6, pow39, c39, c6, hc, List.map_cons, List.map_nil, Nat.reduceLeDiff, Nat.reduceLT, Nat.lt_irrefl, Option.isSome_some, Nat.zero_le, wAugOwn, wEnumL, wTru, wSlA, gCatA, gLtT, gLeT, wFrz, wChain3, wAttr, wMkF, wEnumT, wRevT, wDict0, wDict1, numD3, Nat.reduceAdd, atI0, atI1, atI2, atI3, atI4, ixN51, ixN52, ixN53, List.length_map, wNever, scal, V.int.injEq, V.str.injEq, V.bl.injEq, wSq, wNext, wBreak, wCont, wDrop, wRet, wRetN, wIfS, wAsg, wPar, wLstOwn, wAppend, wSetOwn, wIxOwn, wPeek, wRetOwn, wRetFr, wFor, wB, wNot, wAnd, wOr, wAndV, wOrV, wNotV, wIf, wChain, wNil, wCons, wCB, wTup, wLst, wNoPart, wPart, wSlT, wSlL, wSeq, wRng1, wRng2, wZip, wName, wNilT, wConsT, wTupT, wYes, wNeg, wVar, wC, wOp, wcNil, wcCons, wcOwn, wCall, wCallOwn, slots, cellsOf, OwnArgs, putBack, g2I, g2IC, gLen, gAbs, gGcd, gInt1, gTupleOf, gListOf, gIx, gCatT, gCat, gEq, gNe, gIsN, gNotN, scD, seqD_t, seqD_l, seqD_f, isNonD, List.nodup_cons, List.mem_cons, List.not_mem_nil, or_false, not_false_eq_true, Nat.reduceEqDiff, L3.Keeps, ends, wipeD, List.replicate, List.cons_append, List.nil_append, List.append_nil, List.getElem?_cons_zero, List.getElem?_cons_succ, List.set_cons_zero, List.set_cons_succ, List.getD_cons_zero, List.getD_cons_succ, List.length_cons, List.length_nil, List.nodup_nil, Option.some.injEq, Cell.dat.injEq, Cell.own.injEq, Cont.lst.injEq, D.bl.injEq, D.int.injEq, D.str.injEq, D.tup.injEq, D.lst.injEq, Arg.d.injEq, List.cons.injEq, exists_and_left, exists_and_right, exists_eq_left', exists_eq_left, exists_eq_right, exists_eq_right', exists_eq, exists_eq', and_true, true_and, and_assoc, and_self, exists_const, reduceCtorEq]
  refine ⟨32, rfl, by decide, fun x dx => ⟨dx, rfl, by simp [OkD, OkDs], by simp [OkD, OkDs], fun _ z => z.elim, fun _ => ⟨⟨_, rfl⟩, fun c' y hc' hy => hq c' y hc' ?_⟩⟩⟩
  rcases hy with rfl | rfl | rfl | rfl | rfl | rfl | rfl | rfl | rfl | rfl | rfl | rfl | rfl | rfl | rfl | rfl | rfl | rfl | rfl | rfl | rfl | rfl | rfl | rfl | rfl | rfl | rfl | rfl | rfl | rfl | rfl | rfl | rfl | rfl | rfl | rfl | rfl | rfl | rfl | rfl | rfl
  all_goals first
    | exact ok_dict
    | exact hw
    | exact deep_ok 32
    | (show OkD K _; simp [OkD, OkDs])
theorem ok__law_strange (T : Txt K mg) : FnOk P w K mg base (L2.CX P w) 8 T.f__law_strange T.fd__law_strange ["source"] (spOf K 1 (fs__law_strange K T.Z)) := by
  refine def_ok T.F__law_strange sc__law_strange (wb := w__law_strange K T.Z) pure__law_strange ?_
  intro cdv A outer s H E hr tk
  exact ⟨_, (pss_cons (ps_set (i := 1) sc__law_strange.nd rfl (by first | exact Or.inl rfl | exact Or.inr rfl) (pe_lst (pa_cons pe_non (pa_cons pe_bl (pa_cons pe_bl (pa_cons pe_str (pa_cons pe_str (pa_cons pe_str (pa_cons (pe_lst pa_nil) (pa_cons (pe_lst (pa_cons pe_int pa_nil)) (pa_cons (pe_lst (pa_cons (pe_tup (pa_cons pe_int (pa_cons pe_int pa_nil))) pa_nil)) (pa_cons (pe_tup pa_nil) (pa_cons (pe_tup (pa_cons pe_int pa_nil)) (pa_cons (pe_tup (pa_cons pe_int (pa_cons pe_int (pa_cons pe_int pa_nil)))) (pa_cons (pe_tup (pa_cons pe_int (pa_cons pe_int pa_nil))) (pa_cons (pe_tup (pa_cons pe_int (pa_cons pe_int pa_nil))) (pa_cons (pe_tup (pa_cons pe_int (pa_cons (pe_un un_neg pe_int) pa_nil))) (pa_cons (pe_tup (pa_cons pe_int (pa_cons pe_int pa_nil))) (pa_cons (pe_tup (pa_cons (pe_un un_neg pe_int) (pa_cons pe_int pa_nil))) pa_nil)))))))))))))))))))
      (pss_cons (ps_set (i := 1) sc__law_strange.nd rfl (by first | exact Or.inl rfl | exact Or.inr rfl) (pe_op op_cat (pv 1) (pe_lst (pa_cons (pe_tup (pa_cons pe_bl (pa_cons pe_int pa_nil))) (pa_cons (pe_tup (pa_cons pe_int (pa_cons pe_bl pa_nil))) (pa_cons (pe_tup (pa_cons pe_str (pa_cons pe_int pa_nil))) (pa_cons (pe_tup (pa_cons pe_non (pa_cons pe_int pa_nil))) (pa_cons (pe_tup (pa_cons (pe_tup (pa_cons pe_int (pa_cons pe_int pa_nil))) (pa_cons pe_int pa_nil))) (pa_cons pe_dnewK (pa_cons (pe_disp (pps_cons pe_str pe_int pps_nil) (by rfl) (by rfl) (fun z => by cases z) (by decide)) (pa_cons (pe_disp (pps_cons pe_int (pe_tup (pa_cons pe_int (pa_cons pe_int pa_nil))) pps_nil) (by rfl) (by rfl) (fun z => by cases z) (by decide)) (pa_cons (pe_un un_neg pe_int) (pa_cons pe_int (pa_cons pe_int (pa_cons pe_int (pa_cons pe_int (pa_cons pe_int (pa_cons pe_int pa_nil))))))))))))))))))
      (pss_cons (ps_set (i := 1) sc__law_strange.nd rfl (by first | exact Or.inl rfl | exact Or.inr rfl) (pe_op op_cat (pv 1) (pe_lst (pa_cons pe_int (pa_cons (pe_op op_pow pe_int pe_int) (pa_cons (pe_un un_neg (pe_op op_pow pe_int pe_int)) (pa_cons (pe_tup (pa_cons (pe_op op_pow pe_int pe_int) (pa_cons pe_int pa_nil))) (pa_cons (pe_tup (pa_cons pe_int (pa_cons (pe_op op_pow pe_int pe_int) pa_nil))) (pa_cons (pe_tup (pa_cons (pe_op op_add (pe_op op_pow pe_int pe_int) pe_int) (pa_cons pe_int pa_nil))) (pa_cons (pe_tup (pa_cons pe_int (pa_cons pe_int pa_nil))) (pa_cons (pe_callS (ok__law_deep T) (hr.mono (by decide)) rfl T.g__law_deep T.k__law_deep T.b__law_deep (fun σ => passAt tk σ) (pa_cons pe_int pa_nil)) (pa_cons (pe_make T.cm_Web (ok_Web__init__ T) (hr.mono (by decide)) rfl T.gc_Web T.b_Web__init__ .nil passL (pa_cons (pe_tup (pa_cons pe_int pa_nil)) (pa_cons (pe_tup pa_nil) pa_nil))) pa_nil))))))))))))
      (pss_one (ps_ret (pe_callS (ok__law_pick T) (hr.mono (by decide)) rfl T.g__law_pick T.k__law_pick T.b__law_pick (fun σ => passAt tk σ) (pa_cons (pv 0) (pa_cons (pv 1) pa_nil)))))))),
    (ds_seq (ds_asg (de_lst (da_cons de_non (da_cons de_bl (da_cons de_bl (da_cons de_str (da_cons de_str (da_cons de_str (da_cons (de_lst da_nil) (da_cons (de_lst (da_cons de_int da_nil)) (da_cons (de_lst (da_cons (de_tup (da_cons de_int (da_cons de_int da_nil))) da_nil)) (da_cons (de_tup da_nil) (da_cons (de_tup (da_cons de_int da_nil)) (da_cons (de_tup (da_cons de_int (da_cons de_int (da_cons de_int da_nil)))) (da_cons (de_tup (da_cons de_int (da_cons de_int da_nil))) (da_cons (de_tup (da_cons de_int (da_cons de_int da_nil))) (da_cons (de_tup (da_cons de_int (da_cons (de_neg de_int) da_nil))) (da_cons (de_tup (da_cons de_int (da_cons de_int da_nil))) (da_cons (de_tup (da_cons (de_neg de_int) (da_cons de_int da_nil))) da_nil)))))))))))))))))) (dg_name 1))
      (ds_seq (ds_asg (de_op o_cat (de_var 1) (de_lst (da_cons (de_tup (da_cons de_bl (da_cons de_int da_nil))) (da_cons (de_tup (da_cons de_int (da_cons de_bl da_nil))) (da_cons (de_tup (da_cons de_str (da_cons de_int da_nil))) (da_cons (de_tup (da_cons de_non (da_cons de_int da_nil))) (da_cons (de_tup (da_cons (de_tup (da_cons de_int (da_cons de_int da_nil))) (da_cons de_int da_nil))) (da_cons de_dict0 (da_cons (de_dict1 de_str de_int) (da_cons (de_dict1 de_int (de_tup (da_cons de_int (da_cons de_int da_nil)))) (da_cons (de_neg de_int) (da_cons de_int (da_cons de_int (da_cons de_int (da_cons de_int (da_cons de_int (da_cons de_int da_nil))))))))))))))))) (dg_name 1))
      (ds_seq (ds_asg (de_op o_cat (de_var 1) (de_lst (da_cons de_int (da_cons (de_op o_pow de_int de_int) (da_cons (de_neg (de_op o_pow de_int de_int)) (da_cons (de_tup (da_cons (de_op o_pow de_int de_int) (da_cons de_int da_nil))) (da_cons (de_tup (da_cons de_int (da_cons (de_op o_pow de_int de_int) da_nil))) (da_cons (de_tup (da_cons (de_op o_add (de_op o_pow de_int de_int) de_int) (da_cons de_int da_nil))) (da_cons (de_tup (da_cons de_int (da_cons de_int da_nil))) (da_cons (de_call (n := 1) (fs := fs__law_deep K) (dac_cons de_int dac_nil)) (da_cons (de_makeO (n := 2) (fs := fs_Web__init__ K T.Z) T.it_Web (da_cons (de_tup (da_cons de_int da_nil)) (da_cons (de_tup da_nil) da_nil))) da_nil))))))))))) (dg_name 1))
      (ds_ret (de_call (n := 2) (fs := fs__law_pick K) (dac_own (j := 0) (dac_cons (de_var 1) dac_nil)))))))⟩
abbrev s__law_in_order : Stmt := topS 55
theorem sc__law_in_order : FnScope ["steps", "pairs", "one", "pair"] ["steps"] (defScope s__law_in_order) := ⟨rfl, rfl, rfl, by decide +kernel, rfl, by decide +kernel, by decide +kernel⟩
def c1__law_in_order (K : PySem.W.Frag) : EW := wLc (wSeq (wVar 0)) (wName 2) wYes (wTup (wCons (wOp gDivW (wOp gMulA (wOp gIx (wVar 2) (wC (.int 0))) (wOp gPowI (wC (.int 10)) (wC (.int 6)))) (wOp gIx (wVar 2) (wC (.int 1)))) (wCons (wVar 2) wNil))) [2]
def c2__law_in_order (K : PySem.W.Frag) : EW := wLc (wSeq (wVar 1)) (wName 3) wYes (wOp gIx (wVar 3) (wC (.int 1))) [3]
def w__law_in_order (K : PySem.W.Frag) : SW := (wSq (wAsg (wCB gSort (wCons (c1__law_in_order K) wNil)) (wName 1))
  (wRet (wCB gTupleOf (wCons (c2__law_in_order K) wNil))))
def keyP : D → D | .tup [.int t, .int b] => .tup [.int (t * 1000000 / b), .tup [.int t, .int b]] | _ => .non
def sndP : D → D | .tup [_, y] => y | d => d
def fs__law_in_order (K : PySem.W.Frag) : FS := fun cs q _ => ∃ (es : List D), cs = [.dat (.lst es)] ∧ es.length ≤ 100 ∧ (∀ d ∈ es, isTh d = true) ∧ ∀ gs, gs.length = es.length → (∀ d ∈ gs, d ∈ es) → ascP gs = true → q (.tup gs) cs
theorem c1__law_in_order_ok {es : List D} {c2 c3 c4 : Cell} {q : D → List Cell → Prop} {e : Xn → List Cell → Prop} (hn : es.length ≤ 100) (hs : ∀ d ∈ es, isTh d = true)
    (hq : ∀ c2, q (.lst (es.map keyP)) [.dat (.lst es), c2, .any, c4]) : c1__law_in_order K [.dat (.lst es), c2, c3, c4] q e := by
  unfold c1__law_in_order wLc
  refine ⟨_, rfl, es, rfl, lc_fm keyP (fun _ => true) (by omega) (fun d hm k1 k2 h1 _ => ?_) (by rw [filter_true]; exact hq _)⟩
  obtain ⟨t, b, rfl, h2, h3, h4, h5⟩ := th_shape (hs d hm)
  simp only [pow6, wAugOwn, wEnumL, wTru, wSlA, gCatA, gLtT, gLeT, wFrz, wChain3, wAttr, wMkF, wEnumT, wRevT, wDict0, wDict1, numD3, Nat.reduceAdd, atI0, atI1, atI2, atI3, atI4, ixN51, ixN52, ixN53, List.length_map, wNever, scal, V.int.injEq, V.str.injEq, V.bl.injEq, wSq, wNext, wBreak, wCont, wDrop, wRet, wRetN, wIfS, wAsg, wPar, wLstOwn, wAppend, wSetOwn, wIxOwn, wPeek, wRetOwn, wRetFr, wFor, wB, wNot, wAnd, wOr, wAndV, wOrV, wNotV, wIf, wChain, wNil, wCons, wCB, wTup, wLst, wNoPart, wPart, wSlT, wSlL, wSeq, wRng1, wRng2, wZip, wName, wNilT, wConsT, wTupT, wYes, wNeg, wVar, wC, wOp, wcNil, wcCons, wcOwn, wCall, wCallOwn, slots, cellsOf, OwnArgs, putBack, g2I, g2IC, gLen, gAbs, gGcd, gInt1, gTupleOf, gListOf, gIx, gCatT, gCat, gEq, gNe, gIsN, gNotN, scD, seqD_t, seqD_l, seqD_f, isNonD, List.nodup_cons, List.mem_cons, List.not_mem_nil, or_false, not_false_eq_true, Nat.reduceEqDiff, L3.Keeps, ends, wipeD, List.replicate, List.cons_append, List.nil_append, List.append_nil, List.getElem?_cons_zero, List.getElem?_cons_succ, List.set_cons_zero, List.set_cons_succ, List.getD_cons_zero, List.getD_cons_succ, List.length_cons, List.length_nil, List.nodup_nil, Option.some.injEq, Cell.dat.injEq, Cell.own.injEq, Cont.lst.injEq, D.bl.injEq, D.int.injEq, D.str.injEq, D.tup.injEq, D.lst.injEq, Arg.d.injEq, List.cons.injEq, exists_and_left, exists_and_right, exists_eq_left', exists_eq_left, exists_eq_right, exists_eq_right', exists_eq, exists_eq', and_true, true_and, and_assoc, and_self, exists_const, reduceCtorEq]
  simp only [true_implies]
  have cp : CPow 10 6 := ⟨by decide, by decide, by decide⟩
  refine ⟨⟨cp, cmul_r (by decide) (by decide), ?_, by decide, h1 rfl _ rfl⟩, fun z => z.elim⟩
  exact wide_div (by omega) (b := 40) (by omega) (by decide) (by decide)
theorem c2__law_in_order_ok {es : List D} {c1 c3 c4 : Cell} {q : D → List Cell → Prop} {e : Xn → List Cell → Prop} (hn : es.length ≤ 100) (hs : ∀ d ∈ es, ∃ x y, d = .tup [x, y])
    (hq : q (.lst (es.map sndP)) [c1, .dat (.lst es), c3, .any]) : c2__law_in_order K [c1, .dat (.lst es), c3, c4] q e := by
  unfold c2__law_in_order wLc
  refine ⟨_, rfl, es, rfl, lc_fm sndP (fun _ => true) (by omega) (fun d hm k1 k2 h1 _ => ?_) (by rw [filter_true]; exact hq)⟩
  obtain ⟨x, y, rfl⟩ := hs d hm
  simp only [wAugOwn, wEnumL, wTru, wSlA, gCatA, gLtT, gLeT, wFrz, wChain3, wAttr, wMkF, wEnumT, wRevT, wDict0, wDict1, numD3, Nat.reduceAdd, atI0, atI1, atI2, atI3, atI4, ixN51, ixN52, ixN53, List.length_map, wNever, scal, V.int.injEq, V.str.injEq, V.bl.injEq, wSq, wNext, wBreak, wCont, wDrop, wRet, wRetN, wIfS, wAsg, wPar, wLstOwn, wAppend, wSetOwn, wIxOwn, wPeek, wRetOwn, wRetFr, wFor, wB, wNot, wAnd, wOr, wAndV, wOrV, wNotV, wIf, wChain, wNil, wCons, wCB, wTup, wLst, wNoPart, wPart, wSlT, wSlL, wSeq, wRng1, wRng2, wZip, wName, wNilT, wConsT, wTupT, wYes, wNeg, wVar, wC, wOp, wcNil, wcCons, wcOwn, wCall, wCallOwn, slots, cellsOf, OwnArgs, putBack, g2I, g2IC, gLen, gAbs, gGcd, gInt1, gTupleOf, gListOf, gIx, gCatT, gCat, gEq, gNe, gIsN, gNotN, scD, seqD_t, seqD_l, seqD_f, isNonD, List.nodup_cons, List.mem_cons, List.not_mem_nil, or_false, not_false_eq_true, Nat.reduceEqDiff, L3.Keeps, ends, wipeD, List.replicate, List.cons_append, List.nil_append, List.append_nil, List.getElem?_cons_zero, List.getElem?_cons_succ, List.set_cons_zero, List.set_cons_succ, List.getD_cons_zero, List.getD_cons_succ, List.length_cons, List.length_nil, List.nodup_nil, Option.some.injEq, Cell.dat.injEq, Cell.own.injEq, Cont.lst.injEq, D.bl.injEq, D.int.injEq, D.str.injEq, D.tup.injEq, D.lst.injEq, Arg.d.injEq, List.cons.injEq, exists_and_left, exists_and_right, exists_eq_left', exists_eq_left, exists_eq_right, exists_eq_right', exists_eq, exists_eq', and_true, true_and, and_assoc, and_self, exists_const, reduceCtorEq]
  simp only [true_implies]
  exact ⟨h1 rfl _ rfl, fun z => z.elim⟩
theorem keyP_of {d : D} (h : isTh d = true) : ∃ t b : Int, d = .tup [.int t, .int b] ∧ keyP d = .tup [.int (t * 1000000 / b), d] ∧ pyD (keyP d) = .tuple [.int (t * 1000000 / b), .tuple [.int t, .int b]] ∧ (toPy (keyP d)).isSome := by
  obtain ⟨t, b, rfl, _⟩ := th_shape h
  exact ⟨t, b, rfl, rfl, rfl, rfl⟩
/-- the keys ascend -/
theorem leD_key {k t b k' t' b' : Int} (h : leD (.tup [.int k, .tup [.int t, .int b]]) (.tup [.int k', .tup [.int t', .int b']]) = true) : k ≤ k' := by
  cases Int.lt_or_le k' k with
  | inr z => exact z
  | inl z =>
    have e : leD (.tup [.int k, .tup [.int t, .int b]]) (.tup [.int k', .tup [.int t', .int b']]) = !(PyProof.Rows.lexLt PyProof.Rows.itemOrd [.inl 1, .inl k', .inl 1, .inl 1, .inl t', .inl 1, .inl b', .inl 0, .inl 0] [.inl 1, .inl k, .inl 1, .inl 1, .inl t, .inl 1, .inl b, .inl 0, .inl 0]) := rfl
    have e2 : PyProof.Rows.lexLt PyProof.Rows.itemOrd [.inl 1, .inl k', .inl 1, .inl 1, .inl t', .inl 1, .inl b', .inl 0, .inl 0] [.inl 1, .inl k, .inl 1, .inl 1, .inl t, .inl 1, .inl b, .inl 0, .inl 0] = true := by
      refine PyProof.Rows.lex_true.mpr (.inr ⟨rfl, PyProof.Rows.lex_true.mpr (.inl ?_)⟩)
      exact decide_eq_true z
    rw [e, e2] at h
    cases h
theorem le_of_keys {a b c d : Int} (hb : 1 ≤ b) (hb2 : b ≤ 144) (hd : 1 ≤ d) (hd2 : d ≤ 144) (h : a * 1000000 / b ≤ c * 1000000 / d) : a * d ≤ c * b := by
  cases Int.lt_or_le (c * b) (a * d) with
  | inr z => exact z
  | inl z =>
    exfalso
    have p1 : a * 1000000 < (a * 1000000 / b + 1) * b := by
      have := Int.lt_mul_ediv_self_add (x := a * 1000000) (show 0 < b by omega)
      rw [Int.add_mul, Int.one_mul, Int.mul_comm (a * 1000000 / b) b]
      exact this
    have p2 : c * 1000000 / d * d ≤ c * 1000000 := Int.ediv_mul_le _ (by omega)
    generalize a * 1000000 / b = p at *
    generalize c * 1000000 / d = p' at *
    have q1 := Int.mul_lt_mul_of_pos_right p1 (show 0 < d by omega)
    have q2 := Int.mul_le_mul_of_nonneg_right p2 (show 0 ≤ b by omega)
    have q3 := Int.mul_le_mul_of_nonneg_right (Int.mul_le_mul_of_nonneg_right h (show 0 ≤ d by omega)) (show 0 ≤ b by omega)
    have e1 : a * 1000000 * d = 1000000 * (a * d) := by simp only [Int.mul_assoc, Int.mul_comm, Int.mul_left_comm]
    have e2 : (p + 1) * b * d = p * d * b + b * d := by
      rw [Int.add_mul, Int.add_mul, Int.one_mul]
      congr 1
      simp only [Int.mul_assoc, Int.mul_comm, Int.mul_left_comm]
    have e3 : c * 1000000 * b = 1000000 * (c * b) := by simp only [Int.mul_assoc, Int.mul_comm, Int.mul_left_comm]
    have q4 : b * d ≤ 144 * 144 := Int.mul_le_mul hb2 hd2 (by omega) (by decide)
    rw [e1, e2] at q1
    rw [e3] at q2
    omega
theorem pairwise_zip {α : Type} {R : α → α → Prop} : ∀ {l : List α}, l.Pairwise R → ∀ i x y, l[i]? = some x → l[i + 1]? = some y → R x y
  | l, h, i, x, y, e1, e2 => by
    obtain ⟨h1, rfl⟩ := List.getElem?_eq_some_iff.mp e1
    obtain ⟨h2, rfl⟩ := List.getElem?_eq_some_iff.mp e2
    exact List.pairwise_iff_getElem.mp h i (i + 1) h1 h2 (by omega)
theorem ascP_pairs {ds : List D} (ht : ∀ d ∈ ds, isTh d = true) (h : ∀ i x y, ds[i]? = some x → ds[i + 1]? = some y → leP (.tup [x, y]) = true) : ascP ds = true := by
  unfold ascP
  rw [List.all_eq_true]
  intro p hp
  unfold zipD at hp
  obtain ⟨i, hi, rfl⟩ := List.getElem_of_mem hp
  rw [List.getElem_zipWith]
  have hi' : i < ds.length - 1 := by
    rw [List.length_zipWith, List.length_drop] at hi
    omega
  refine h i _ _ (List.getElem?_eq_getElem (by omega)) ?_
  rw [List.getElem_drop]
  have : 1 + i = i + 1 := by omega
  simp only [this]
  exact List.getElem?_eq_getElem (by omega)
theorem pure__law_in_order : PureD 1 3 (fs__law_in_order K) (w__law_in_order K) := by
  rintro cs q e - ⟨es, rfl, hl, hs, hq⟩
  simp only [w__law_in_order, wAugOwn, wEnumL, wTru, wSlA, gCatA, gLtT, gLeT, wFrz, wChain3, wAttr, wMkF, wEnumT, wRevT, wDict0, wDict1, numD3, Nat.reduceAdd, atI0, atI1, atI2, atI3, atI4, ixN51, ixN52, ixN53, List.length_map, wNever, scal, V.int.injEq, V.str.injEq, V.bl.injEq, wSq, wNext, wBreak, wCont, wDrop, wRet, wRetN, wIfS, wAsg, wPar, wLstOwn, wAppend, wSetOwn, wIxOwn, wPeek, wRetOwn, wRetFr, wFor, wB, wNot, wAnd, wOr, wAndV, wOrV, wNotV, wIf, wChain, wNil, wCons, wCB, wTup, wLst, wNoPart, wPart, wSlT, wSlL, wSeq, wRng1, wRng2, wZip, wName, wNilT, wConsT, wTupT, wYes, wNeg, wVar, wC, wOp, wcNil, wcCons, wcOwn, wCall, wCallOwn, slots, cellsOf, OwnArgs, putBack, g2I, g2IC, gLen, gAbs, gGcd, gInt1, gTupleOf, gListOf, gIx, gCatT, gCat, gEq, gNe, gIsN, gNotN, scD, seqD_t, seqD_l, seqD_f, isNonD, List.nodup_cons, List.mem_cons, List.not_mem_nil, or_false, not_false_eq_true, Nat.reduceEqDiff, L3.Keeps, ends, wipeD, List.replicate, List.cons_append, List.nil_append, List.append_nil, List.getElem?_cons_zero, List.getElem?_cons_succ, List.set_cons_zero, List.set_cons_succ, List.getD_cons_zero, List.getD_cons_succ, List.length_cons, List.length_nil, List.nodup_nil, Option.some.injEq, Cell.dat.injEq, Cell.own.injEq, Cont.lst.injEq, D.bl.injEq, D.int.injEq, D.str.injEq, D.tup.injEq, D.lst.injEq, Arg.d.injEq, List.cons.injEq, exists_and_left, exists_and_right, exists_eq_left', exists_eq_left, exists_eq_right, exists_eq_right', exists_eq, exists_eq', and_true, true_and, and_assoc, and_self, exists_const, reduceCtorEq]
  refine c1__law_in_order_ok hl hs fun c2 => ?_
  have hm : ∀ d ∈ es.map keyP, ∃ x ∈ es, d = keyP x := fun d hd => by
    obtain ⟨x, hx, rfl⟩ := List.mem_map.mp hd
    exact ⟨x, hx, rfl⟩
  have hpy : ∀ p ∈ (es.map keyP).map pyD, ∃ a t b : Int, p = .tuple [.int a, .tuple [.int t, .int b]] := fun p hp => by
    obtain ⟨d, hd, rfl⟩ := List.mem_map.mp hp
    obtain ⟨x, hx, rfl⟩ := hm d hd
    obtain ⟨t, b, _, _, e3, _⟩ := keyP_of (hs x hx)
    exact ⟨_, t, b, e3⟩
  refine ⟨es.map keyP, .inl rfl, fun d hd => ?_, fun p hp p' hp' => ?_, .inl fun p hp => ?_, fun d hd => ?_, ?_⟩
  · obtain ⟨x, hx, rfl⟩ := hm d hd
    obtain ⟨_, _, _, _, _, e4⟩ := keyP_of (hs x hx)
    exact e4
  · obtain ⟨a, t, b, rfl⟩ := hpy p hp
    obtain ⟨a', t', b', rfl⟩ := hpy p' hp'
    rfl
  · obtain ⟨a, t, b, rfl⟩ := hpy p hp
    exact ⟨_, _, rfl⟩
  · obtain ⟨a, t, b, e⟩ := hpy (pyD d) (List.mem_map.mpr ⟨d, hd, rfl⟩)
    rw [e]
    exact Nat.le_of_ble_eq_true rfl
  · have hp : ((es.map keyP).mergeSort leD).Perm (es.map keyP) := List.mergeSort_perm _ _
    have tot := PySem.W.sortLe_total (listOrd itemOrd) false fun b : D => PySem.W.keyToks (pyD b)
    have hpw : ((es.map keyP).mergeSort leD).Pairwise (fun a b => leD a b = true) := List.pairwise_mergeSort (le := leD) (fun a b c h1 h2 => tot.trans a b c h1 h2) (fun a b => Bool.or_eq_true_iff.mpr (tot.total a b)) _
    have hsub : ∀ d ∈ (es.map keyP).mergeSort leD, ∃ x ∈ es, d = keyP x := fun d hd => hm d (hp.mem_iff.mp hd)
    have hlen : ((es.map keyP).mergeSort leD).length = es.length := by rw [hp.length_eq, List.length_map]
    generalize (es.map keyP).mergeSort leD = ss at hsub hlen hpw
    have hmem : ∀ d ∈ ss.map sndP, d ∈ es := fun d hd => by
      obtain ⟨y, hy, rfl⟩ := List.mem_map.mp hd
      obtain ⟨x, hx, rfl⟩ := hsub y hy
      obtain ⟨t, b, _, e2, _⟩ := keyP_of (hs x hx)
      rw [e2]
      exact hx
    refine c2__law_in_order_ok (c3 := .any) (by omega) (fun d hd => ?_) ⟨ss.map sndP, rfl, trivial, hq _ (by rw [List.length_map, hlen]) hmem (ascP_pairs (fun d hd => hs d (hmem d hd)) fun i x y e1 e2 => ?_)⟩
    · obtain ⟨x, hx, rfl⟩ := hsub d hd
      obtain ⟨t, b, _, e2, _⟩ := keyP_of (hs x hx)
      exact ⟨_, _, e2⟩
    · rw [List.getElem?_map] at e1 e2
      cases f1 : ss[i]? with
      | none => rw [f1] at e1; cases e1
      | some u =>
        cases f2 : ss[i + 1]? with
        | none => rw [f2] at e2; cases e2
        | some v =>
          rw [f1] at e1
          rw [f2] at e2
          have key := pairwise_zip hpw i u v f1 f2
          obtain ⟨x', hx, rfl⟩ := hsub u (List.mem_of_getElem? f1)
          obtain ⟨y', hy, rfl⟩ := hsub v (List.mem_of_getElem? f2)
          obtain ⟨a, b, rfl, b1, b2, _, _⟩ := th_shape (hs _ hx)
          obtain ⟨c, d, rfl, d1, d2, _, _⟩ := th_shape (hs _ hy)
          cases e1
          cases e2
          simp only [sndP, keyP, leP, decide_eq_true_eq]
          exact le_of_keys b1 b2 d1 d2 (leD_key key)
theorem ok__law_in_order (T : Txt K mg) : FnOk P w K mg base (L2.CX P w) 1 T.f__law_in_order T.fd__law_in_order ["steps"] (spOf K 1 (fs__law_in_order K)) := by
  refine def_ok T.F__law_in_order sc__law_in_order (wb := w__law_in_order K) pure__law_in_order ?_
  intro cdv A outer s H E hr tk
  exact ⟨_, (pss_cons (ps_set (i := 1) sc__law_in_order.nd rfl (by first | exact Or.inl rfl | exact Or.inr rfl) (pe_callB (cr_sortG hr.units) (by rfl) T.z_sorted (by decide +kernel) (pa_cons (pe_lc (own := [("one", 2)]) (g := (gName 2)) (tt := tYes) (te := (tTup (tCons (tOp rDivW (tOp rMulA (tOp (rIx K) (tVar 2) (tC (.int 0))) (tOp rPowI (tC (.int 10)) (tC (.int 6)))) (tOp (rIx K) (tVar 2) (tC (.int 1)))) (tCons (tVar 2) tNil)))) rfl sc__law_in_order.nd (pi_seq (pv 0)) (blkOk_by (N := ["steps", "pairs", "one", "pair"]) (sc := defScope s__law_in_order) (by decide +kernel)) (fun _ _ _ _ _ => (pg_name (i := 2) sc__law_in_order.nd rfl (by first | exact Or.inl rfl | exact Or.inr rfl))) (fun _ _ _ _ _ => pts_nil) (fun _ _ _ _ _ => (pe_tup (pa_cons (pe_op op_fdivW (pe_op op_mulA (pe_ix ix_seq (pv 2) pe_int (fun _ _ => rfl)) (pe_op op_pow pe_int pe_int)) (pe_ix ix_seq (pv 2) pe_int (fun _ _ => rfl))) (pa_cons (pv 2) pa_nil))))) pa_nil)))
      (pss_one (ps_ret (pe_callTy call_tuple_of (by rfl) T.z_tuple (by decide +kernel) (pa_cons (pe_lc (own := [("pair", 3)]) (g := (gName 3)) (tt := tYes) (te := (tOp (rIx K) (tVar 3) (tC (.int 1)))) rfl sc__law_in_order.nd (pi_seq (pv 1)) (blkOk_by (N := ["steps", "pairs", "one", "pair"]) (sc := defScope s__law_in_order) (by decide +kernel)) (fun _ _ _ _ _ => (pg_name (i := 3) sc__law_in_order.nd rfl (by first | exact Or.inl rfl | exact Or.inr rfl))) (fun _ _ _ _ _ => pts_nil) (fun _ _ _ _ _ => (pe_ix ix_seq (pv 3) pe_int (fun _ _ => rfl)))) pa_nil))))),
    (ds_seq (ds_asg (de_cb o_sort (da_cons (de_lc (vs := [2]) (wI := (wSeq (wVar 0))) (wg := (wName 2)) (wt := wYes) (we := (wTup (wCons (wOp gDivW (wOp gMulA (wOp gIx (wVar 2) (wC (.int 0))) (wOp gPowI (wC (.int 10)) (wC (.int 6)))) (wOp gIx (wVar 2) (wC (.int 1)))) (wCons (wVar 2) wNil)))) (di_seq (de_var 0)) (dg_name 2) dt_yes (de_tup (da_cons (de_op o_fdivW (de_op o_mulA (de_op o_ix (de_var 2) de_int) (de_op o_pow de_int de_int)) (de_op o_ix (de_var 2) de_int)) (da_cons (de_var 2) da_nil))) (by decide)) da_nil)) (dg_name 1))
      (ds_ret (de_cb o_tupleOf (da_cons (de_lc (vs := [3]) (wI := (wSeq (wVar 1))) (wg := (wName 3)) (wt := wYes) (we := (wOp gIx (wVar 3) (wC (.int 1)))) (di_seq (de_var 1)) (dg_name 3) dt_yes (de_op o_ix (de_var 3) de_int) (by decide)) da_nil))))⟩
abbrev s__law_steps : Stmt := topS 56
theorem sc__law_steps : FnScope ["source", "most", "wide", "found", "k", "kind"] ["source", "most", "wide"] (defScope s__law_steps) := ⟨rfl, rfl, rfl, by decide +kernel, rfl, by decide +kernel, by decide +kernel⟩
def l1__law_steps (K : PySem.W.Frag) : SW := wFor (wRng1 (wCons (wOp gAddI (wC (.int 1)) (wCall 2 (fs__law_draw K) (wcOwn 0 (wcCons (wVar 1) wcNil)))) wNil)) (wName 4) (wSq (wAsg (wCall 2 (fs__law_draw K) (wcOwn 0 (wcCons (wC (.int 5)) wcNil))) (wName 5))
  (wIfS (wAnd (wB (wOp gEq (wVar 5) (wC (.int 0)))) (wB (wOp gGtI (wPeek 3 (fun es q => q (.int es.length))) (wC (.int 0))))) (wAppend 3 (wCons (wCall 2 (fs__law_pick_o1 K) (wcOwn 0 (wcOwn 3 wcNil))) wNil)) (wIfS (wAnd (wB (wOp gEq (wVar 5) (wC (.int 1)))) (wB (wVar 2))) (wAppend 3 (wCons (wCall 2 (fs__law_made K) (wcCons (wOp gAddI (wC (.int 1)) (wCall 2 (fs__law_draw K) (wcOwn 0 (wcCons (wOp gPowI (wC (.int 10)) (wC (.int 6))) wcNil)))) (wcCons (wOp gAddI (wC (.int 1)) (wCall 2 (fs__law_draw K) (wcOwn 0 (wcCons (wC (.int 144)) wcNil)))) wcNil))) wNil)) (wIfS (wB (wOp gEq (wVar 5) (wC (.int 2)))) (wAppend 3 (wCons (wCall 2 (fs__law_made K) (wcCons (wOp gAddI (wC (.int 1)) (wCall 2 (fs__law_draw K) (wcOwn 0 (wcCons (wC (.int 12)) wcNil)))) (wcCons (wOp gAddI (wC (.int 1)) (wCall 2 (fs__law_draw K) (wcOwn 0 (wcCons (wC (.int 4)) wcNil)))) wcNil))) wNil)) (wAppend 3 (wCons (wTup (wCons (wOp gAddI (wC (.int 1)) (wCall 2 (fs__law_draw K) (wcOwn 0 (wcCons (wC (.int 5)) wcNil)))) (wCons (wC (.int 1)) wNil))) wNil))))))
def w__law_steps (K : PySem.W.Frag) : SW := (wSq (wLstOwn 3 wNil)
  (wSq (l1__law_steps K)
  (wRet (wCall 1 (fs__law_in_order K) (wcCons (wFrz 3) wcNil)))))
/-- a list that is drawn -/
def StepsD (es : List D) : Prop := 1 ≤ es.length ∧ es.length ≤ 6 ∧ (∀ d ∈ es, isTh d = true) ∧ ascP es = true
theorem stepsD_li {es : List D} (h : StepsD es) : isLi (.tup es) = true := by
  obtain ⟨h1, h2, h3, h4⟩ := h
  simp only [isLi, Bool.and_eq_true]
  refine ⟨⟨by simp [isTupOf]; omega, by rw [List.all_eq_true]; exact h3⟩, h4⟩
def fs__law_steps (K : PySem.W.Frag) : FS := fun cs q _ => ∃ (p : Addr) (c : Cont) (m : Int) (w : Bool), cs = [.own p c, .dat (.int m), .dat (.bl w)] ∧ SrcC c ∧ 1 ≤ m ∧ m ≤ 6 ∧ ∀ (c' : Cont) (es : List D), SrcC c' → (es.length : Int) ≤ m → StepsD es → q (.tup es) [.own p c', .dat (.int m), .dat (.bl w)]
def InvSt (p0 p : Addr) (m : Int) (w : Bool) (i : Nat) (τ : List Cell) : Prop := ∃ (c : Cont) (es : List D) (c4 c5 : Cell), τ = [.own p0 c, .dat (.int m), .dat (.bl w), .own p (.lst es), c4, c5] ∧ SrcC c ∧ es.length = i ∧ ∀ d ∈ es, isTh d = true
theorem th_nf {t b : Int} (h1 : 0 < t) (h2 : 0 < b) (h3 : t ≤ 1000000) (h4 : b ≤ 144) : isTh (nf t b) = true := by
  obtain ⟨t', b', e1, b0, e2, e3, e4, e5⟩ := nf_parts (t := t) h2
  have t0 : 0 < t' := by
    have : 0 < b * t' := by rw [Int.mul_comm, e2]; exact Int.mul_pos h1 b0
    exact pos_right h2 this
  rw [e1]
  simp only [isTh, isFr, e5, Bool.and_eq_true, decide_eq_true_eq]
  refine ⟨⟨⟨⟨by omega, trivial⟩, by omega⟩, by omega⟩, by omega⟩
theorem all_snoc {P : D → Prop} {es : List D} {d : D} (h : ∀ d ∈ es, P d) (h2 : P d) : ∀ x ∈ es ++ [d], P x := fun x hx => by
  rcases List.mem_append.mp hx with hx | hx
  · exact h x hx
  · have : x = d := by simpa using hx
    rw [this]
    exact h2
theorem l1__law_steps_ok {p0 p : Addr} {c : Cont} {m : Int} {w : Bool} {c4 c5 : Cell} {E : EndsD} (hc : SrcC c) (m1 : 1 ≤ m) (m6 : m ≤ 6) (hn : ∀ (c : Cont) (es : List D) c4 c5, SrcC c → 1 ≤ es.length → (es.length : Int) ≤ m → (∀ d ∈ es, isTh d = true) → E.nx [.own p0 c, .dat (.int m), .dat (.bl w), .own p (.lst es), c4, c5]) :
    l1__law_steps K E [.own p0 c, .dat (.int m), .dat (.bl w), .own p (.lst []), c4, c5] := by
  unfold l1__law_steps wFor
  simp only [fs__law_draw, wAugOwn, wEnumL, wTru, wSlA, gCatA, gLtT, gLeT, wFrz, wChain3, wAttr, wMkF, wEnumT, wRevT, wDict0, wDict1, numD3, Nat.reduceAdd, atI0, atI1, atI2, atI3, atI4, ixN51, ixN52, ixN53, List.length_map, wNever, scal, V.int.injEq, V.str.injEq, V.bl.injEq, wSq, wNext, wBreak, wCont, wDrop, wRet, wRetN, wIfS, wAsg, wPar, wLstOwn, wAppend, wSetOwn, wIxOwn, wPeek, wRetOwn, wRetFr, wFor, wB, wNot, wAnd, wOr, wAndV, wOrV, wNotV, wIf, wChain, wNil, wCons, wCB, wTup, wLst, wNoPart, wPart, wSlT, wSlL, wSeq, wRng1, wRng2, wZip, wName, wNilT, wConsT, wTupT, wYes, wNeg, wVar, wC, wOp, wcNil, wcCons, wcOwn, wCall, wCallOwn, slots, cellsOf, OwnArgs, putBack, g2I, g2IC, gLen, gAbs, gGcd, gInt1, gTupleOf, gListOf, gIx, gCatT, gCat, gEq, gNe, gIsN, gNotN, scD, seqD_t, seqD_l, seqD_f, isNonD, List.nodup_cons, List.mem_cons, List.not_mem_nil, or_false, not_false_eq_true, Nat.reduceEqDiff, L3.Keeps, ends, wipeD, List.replicate, List.cons_append, List.nil_append, List.append_nil, List.getElem?_cons_zero, List.getElem?_cons_succ, List.set_cons_zero, List.set_cons_succ, List.getD_cons_zero, List.getD_cons_succ, List.length_cons, List.length_nil, List.nodup_nil, Option.some.injEq, Cell.dat.injEq, Cell.own.injEq, Cont.lst.injEq, D.bl.injEq, D.int.injEq, D.str.injEq, D.tup.injEq, D.lst.injEq, Arg.d.injEq, List.cons.injEq, exists_and_left, exists_and_right, exists_eq_left', exists_eq_left, exists_eq_right, exists_eq_right', exists_eq, exists_eq', and_true, true_and, and_assoc, and_self, exists_const, reduceCtorEq]
  refine ⟨hc, by omega, by omega, fun c' n hc' h0 h6 => ⟨by omega, by omega, InvSt p0 p m w, ⟨c', [], c4, c5, rfl, hc', rfl, fun d h => by simp at h⟩, ?_, ?_⟩⟩
  · rintro i d τ2 hi ⟨c, es, c4, c5, rfl, hc, hl, he⟩
    have hlt : i < 6 := by
      have := (List.getElem?_eq_some_iff.mp hi).1
      rw [rangeD_length] at this
      omega
    have cp : CPow 10 6 := ⟨by decide, by decide, by decide⟩
    have b200 : ∀ x : Int, 0 ≤ x → x < 2000000 → (1 + x).natAbs < 2 ^ 400 := fun x a b => Nat.lt_of_lt_of_le (show (1 + x).natAbs < 2 ^ 40 by omega) (Nat.pow_le_pow_right (by decide) (by decide))
    have mk : ∀ (c' : Cont) (x : D) (c5 : Cell), SrcC c' → isTh x = true → es.length < 1000 ∧ InvSt p0 p m w (i + 1) [.own p0 c', .dat (.int m), .dat (.bl w), .own p (.lst (es ++ [x])), .dat d, c5] := fun c' x c5 hc' hx =>
      ⟨by omega, c', es ++ [x], _, c5, rfl, hc', by rw [List.length_append, hl]; rfl, all_snoc he hx⟩
    have th1 : ∀ m : Int, 0 ≤ m → m < 5 → isTh (.tup [.int (1 + m), .int 1]) = true := fun m a b => by
      simp only [isTh, isFr, Bool.and_eq_true, decide_eq_true_eq]
      simp
      omega
    simp only [fs__law_draw, fs__law_made, fs__law_pick_o1, pow6, wAugOwn, wEnumL, wTru, wSlA, gCatA, gLtT, gLeT, wFrz, wChain3, wAttr, wMkF, wEnumT, wRevT, wDict0, wDict1, numD3, Nat.reduceAdd, atI0, atI1, atI2, atI3, atI4, ixN51, ixN52, ixN53, List.length_map, wNever, scal, V.int.injEq, V.str.injEq, V.bl.injEq, wSq, wNext, wBreak, wCont, wDrop, wRet, wRetN, wIfS, wAsg, wPar, wLstOwn, wAppend, wSetOwn, wIxOwn, wPeek, wRetOwn, wRetFr, wFor, wB, wNot, wAnd, wOr, wAndV, wOrV, wNotV, wIf, wChain, wNil, wCons, wCB, wTup, wLst, wNoPart, wPart, wSlT, wSlL, wSeq, wRng1, wRng2, wZip, wName, wNilT, wConsT, wTupT, wYes, wNeg, wVar, wC, wOp, wcNil, wcCons, wcOwn, wCall, wCallOwn, slots, cellsOf, OwnArgs, putBack, g2I, g2IC, gLen, gAbs, gGcd, gInt1, gTupleOf, gListOf, gIx, gCatT, gCat, gEq, gNe, gIsN, gNotN, scD, seqD_t, seqD_l, seqD_f, isNonD, List.nodup_cons, List.mem_cons, List.not_mem_nil, or_false, not_false_eq_true, Nat.reduceEqDiff, L3.Keeps, ends, wipeD, List.replicate, List.cons_append, List.nil_append, List.append_nil, List.getElem?_cons_zero, List.getElem?_cons_succ, List.set_cons_zero, List.set_cons_succ, List.getD_cons_zero, List.getD_cons_succ, List.length_cons, List.length_nil, List.nodup_nil, Option.some.injEq, Cell.dat.injEq, Cell.own.injEq, Cont.lst.injEq, D.bl.injEq, D.int.injEq, D.str.injEq, D.tup.injEq, D.lst.injEq, Arg.d.injEq, List.cons.injEq, exists_and_left, exists_and_right, exists_eq_left', exists_eq_left, exists_eq_right, exists_eq_right', exists_eq, exists_eq', and_true, true_and, and_assoc, and_self, exists_const, reduceCtorEq]
    refine ⟨hc, by decide, by decide, fun c1 n1 hc1 a1 a2 => ⟨fun z => ⟨fun z2 => ?_, fun z2 => ?_⟩, fun z => ⟨fun f => f.elim, fun _ => ?_⟩⟩⟩
    · have z2 := of_decide_eq_true z2
      exact ⟨hc1, by omega, by omega, fun c2 x hc2 hx => mk c2 x _ hc2 (he x hx)⟩
    all_goals
      refine ⟨fun z => ⟨fun _ => ?_, fun f => ?_⟩, fun z => ⟨fun f => f.elim, fun _ => ⟨fun z => ?_, fun z => ?_⟩⟩⟩
      · exact ⟨cp, hc1, by decide, by decide, fun c2 m hc2 b1 b2 => ⟨hc2, by decide, by decide, fun c3 m2 hc3 d1 d2 => ⟨by omega, b200 m2 d1 (by omega), mk c3 _ _ hc3 (th_nf (by omega) (by omega) (by omega) (by omega))⟩⟩⟩
      · refine ⟨fun z => ?_, fun z => ?_⟩
        · exact ⟨hc1, by decide, by decide, fun c2 m hc2 b1 b2 => ⟨hc2, by decide, by decide, fun c3 m2 hc3 d1 d2 => ⟨by omega, b200 m2 d1 (by omega), mk c3 _ _ hc3 (th_nf (by omega) (by omega) (by omega) (by omega))⟩⟩⟩
        · exact ⟨hc1, by decide, by decide, fun c2 m hc2 b1 b2 => ⟨by decide, mk c2 _ _ hc2 (th1 m b1 b2)⟩⟩
      · exact ⟨hc1, by decide, by decide, fun c2 m hc2 b1 b2 => ⟨hc2, by decide, by decide, fun c3 m2 hc3 d1 d2 => ⟨by omega, b200 m2 d1 (by omega), mk c3 _ _ hc3 (th_nf (by omega) (by omega) (by omega) (by omega))⟩⟩⟩
      · exact ⟨hc1, by decide, by decide, fun c2 m hc2 b1 b2 => ⟨by decide, mk c2 _ _ hc2 (th1 m b1 b2)⟩⟩
  · rintro τ2 ⟨c, es, c4, c5, rfl, hc, hl, he⟩
    rw [rangeD_length] at hl
    exact hn c es c4 c5 hc (by omega) (by omega) he
theorem pure__law_steps : PureD 3 3 (fs__law_steps K) (w__law_steps K) := by
  rintro cs q e - ⟨p0, c, m, w, rfl, hc, m1, m6, hq⟩
  simp only [w__law_steps, wAugOwn, wEnumL, wTru, wSlA, gCatA, gLtT, gLeT, wFrz, wChain3, wAttr, wMkF, wEnumT, wRevT, wDict0, wDict1, numD3, Nat.reduceAdd, atI0, atI1, atI2, atI3, atI4, ixN51, ixN52, ixN53, List.length_map, wNever, scal, V.int.injEq, V.str.injEq, V.bl.injEq, wSq, wNext, wBreak, wCont, wDrop, wRet, wRetN, wIfS, wAsg, wPar, wLstOwn, wAppend, wSetOwn, wIxOwn, wPeek, wRetOwn, wRetFr, wFor, wB, wNot, wAnd, wOr, wAndV, wOrV, wNotV, wIf, wChain, wNil, wCons, wCB, wTup, wLst, wNoPart, wPart, wSlT, wSlL, wSeq, wRng1, wRng2, wZip, wName, wNilT, wConsT, wTupT, wYes, wNeg, wVar, wC, wOp, wcNil, wcCons, wcOwn, wCall, wCallOwn, slots, cellsOf, OwnArgs, putBack, g2I, g2IC, gLen, gAbs, gGcd, gInt1, gTupleOf, gListOf, gIx, gCatT, gCat, gEq, gNe, gIsN, gNotN, scD, seqD_t, seqD_l, seqD_f, isNonD, List.nodup_cons, List.mem_cons, List.not_mem_nil, or_false, not_false_eq_true, Nat.reduceEqDiff, L3.Keeps, ends, wipeD, List.replicate, List.cons_append, List.nil_append, List.append_nil, List.getElem?_cons_zero, List.getElem?_cons_succ, List.set_cons_zero, List.set_cons_succ, List.getD_cons_zero, List.getD_cons_succ, List.length_cons, List.length_nil, List.nodup_nil, Option.some.injEq, Cell.dat.injEq, Cell.own.injEq, Cont.lst.injEq, D.bl.injEq, D.int.injEq, D.str.injEq, D.tup.injEq, D.lst.injEq, Arg.d.injEq, List.cons.injEq, exists_and_left, exists_and_right, exists_eq_left', exists_eq_left, exists_eq_right, exists_eq_right', exists_eq, exists_eq', and_true, true_and, and_assoc, and_self, exists_const, reduceCtorEq]
  refine ⟨by decide, fun p => l1__law_steps_ok hc m1 m6 fun c es c4 c5 hc h1 h6 he => ?_⟩
  simp only [fs__law_in_order, wAugOwn, wEnumL, wTru, wSlA, gCatA, gLtT, gLeT, wFrz, wChain3, wAttr, wMkF, wEnumT, wRevT, wDict0, wDict1, numD3, Nat.reduceAdd, atI0, atI1, atI2, atI3, atI4, ixN51, ixN52, ixN53, List.length_map, wNever, scal, V.int.injEq, V.str.injEq, V.bl.injEq, wSq, wNext, wBreak, wCont, wDrop, wRet, wRetN, wIfS, wAsg, wPar, wLstOwn, wAppend, wSetOwn, wIxOwn, wPeek, wRetOwn, wRetFr, wFor, wB, wNot, wAnd, wOr, wAndV, wOrV, wNotV, wIf, wChain, wNil, wCons, wCB, wTup, wLst, wNoPart, wPart, wSlT, wSlL, wSeq, wRng1, wRng2, wZip, wName, wNilT, wConsT, wTupT, wYes, wNeg, wVar, wC, wOp, wcNil, wcCons, wcOwn, wCall, wCallOwn, slots, cellsOf, OwnArgs, putBack, g2I, g2IC, gLen, gAbs, gGcd, gInt1, gTupleOf, gListOf, gIx, gCatT, gCat, gEq, gNe, gIsN, gNotN, scD, seqD_t, seqD_l, seqD_f, isNonD, List.nodup_cons, List.mem_cons, List.not_mem_nil, or_false, not_false_eq_true, Nat.reduceEqDiff, L3.Keeps, ends, wipeD, List.replicate, List.cons_append, List.nil_append, List.append_nil, List.getElem?_cons_zero, List.getElem?_cons_succ, List.set_cons_zero, List.set_cons_succ, List.getD_cons_zero, List.getD_cons_succ, List.length_cons, List.length_nil, List.nodup_nil, Option.some.injEq, Cell.dat.injEq, Cell.own.injEq, Cont.lst.injEq, D.bl.injEq, D.int.injEq, D.str.injEq, D.tup.injEq, D.lst.injEq, Arg.d.injEq, List.cons.injEq, exists_and_left, exists_and_right, exists_eq_left', exists_eq_left, exists_eq_right, exists_eq_right', exists_eq, exists_eq', and_true, true_and, and_assoc, and_self, exists_const, reduceCtorEq]
  refine ⟨by omega, he, fun gs hl hg ha => hq c gs hc (by omega) ⟨by omega, by omega, fun d hd => he d (hg d hd), ha⟩⟩
theorem ok__law_steps (T : Txt K mg) : FnOk P w K mg base (L2.CX P w) 4 T.f__law_steps T.fd__law_steps ["source", "most", "wide"] (spOf K 3 (fs__law_steps K)) := by
  refine def_ok T.F__law_steps sc__law_steps (wb := w__law_steps K) pure__law_steps ?_
  intro cdv A outer s H E hr tk
  exact ⟨_, (pss_cons (ps_set (i := 3) sc__law_steps.nd rfl (by first | exact Or.inl rfl | exact Or.inr rfl) (pe_lst pa_nil))
      (pss_cons (ps_for (passes_of rfl) rfl (pi_range1 (by rfl) T.z_range (pa_cons (pe_op op_add pe_int (pe_callS (ok__law_draw T) (hr.mono (by decide)) rfl T.g__law_draw T.k__law_draw T.b__law_draw (fun σ => passAt tk σ) (pa_cons (pv 0) (pa_cons (pv 1) pa_nil)))) pa_nil)) (pg_name (i := 4) sc__law_steps.nd rfl (by first | exact Or.inl rfl | exact Or.inr rfl))
        (pss_cons (ps_set (i := 5) sc__law_steps.nd rfl (by first | exact Or.inl rfl | exact Or.inr rfl) (pe_callS (ok__law_draw T) (hr.mono (by decide)) rfl T.g__law_draw T.k__law_draw T.b__law_draw (fun σ => passAt tk σ) (pa_cons (pv 0) (pa_cons pe_int pa_nil))))
      (pss_one (ps_if (PW.pt (pw_and (pt_cmpR op_eq (pv 5) pe_int (nomark _)) (pw_and1 (pt_cmpR op_gt (pe_callB call_len_seq (by rfl) T.z_len (by decide +kernel) (pa_cons (pv 3) pa_nil)) pe_int (nomark _)))))
        (pss_one (ps_expr (pe_bm PySem.F.plainAttrs_list PySem.F.slot_list_append PySem.F.type_list_append mt_append (pv 3) (pa_cons (pe_callS (ok__law_pick_o1 T) (hr.mono (by decide)) rfl T.g__law_pick T.k__law_pick T.b__law_pick (fun σ => passAt tk σ) (pa_cons (pv 0) (pa_cons (pv 3) pa_nil))) pa_nil))))
        (pss_one (ps_if (PW.pt (pw_and (pt_cmpR op_eq (pv 5) pe_int (nomark _)) (pw_and1 (pt_val (pv 2)))))
        (pss_one (ps_expr (pe_bm PySem.F.plainAttrs_list PySem.F.slot_list_append PySem.F.type_list_append mt_append (pv 3) (pa_cons (pe_callS (ok__law_made T) (hr.mono (by decide)) rfl T.g__law_made T.k__law_made T.b__law_made (fun σ => passAt tk σ) (pa_cons (pe_op op_add pe_int (pe_callS (ok__law_draw T) (hr.mono (by decide)) rfl T.g__law_draw T.k__law_draw T.b__law_draw (fun σ => passAt tk σ) (pa_cons (pv 0) (pa_cons (pe_op op_pow pe_int pe_int) pa_nil)))) (pa_cons (pe_op op_add pe_int (pe_callS (ok__law_draw T) (hr.mono (by decide)) rfl T.g__law_draw T.k__law_draw T.b__law_draw (fun σ => passAt tk σ) (pa_cons (pv 0) (pa_cons pe_int pa_nil)))) pa_nil))) pa_nil))))
        (pss_one (ps_if (pt_cmpR op_eq (pv 5) pe_int (nomark _))
        (pss_one (ps_expr (pe_bm PySem.F.plainAttrs_list PySem.F.slot_list_append PySem.F.type_list_append mt_append (pv 3) (pa_cons (pe_callS (ok__law_made T) (hr.mono (by decide)) rfl T.g__law_made T.k__law_made T.b__law_made (fun σ => passAt tk σ) (pa_cons (pe_op op_add pe_int (pe_callS (ok__law_draw T) (hr.mono (by decide)) rfl T.g__law_draw T.k__law_draw T.b__law_draw (fun σ => passAt tk σ) (pa_cons (pv 0) (pa_cons pe_int pa_nil)))) (pa_cons (pe_op op_add pe_int (pe_callS (ok__law_draw T) (hr.mono (by decide)) rfl T.g__law_draw T.k__law_draw T.b__law_draw (fun σ => passAt tk σ) (pa_cons (pv 0) (pa_cons pe_int pa_nil)))) pa_nil))) pa_nil))))
        (pss_one (ps_expr (pe_bm PySem.F.plainAttrs_list PySem.F.slot_list_append PySem.F.type_list_append mt_append (pv 3) (pa_cons (pe_tup (pa_cons (pe_op op_add pe_int (pe_callS (ok__law_draw T) (hr.mono (by decide)) rfl T.g__law_draw T.k__law_draw T.b__law_draw (fun σ => passAt tk σ) (pa_cons (pv 0) (pa_cons pe_int pa_nil)))) (pa_cons pe_int pa_nil))) pa_nil))))))))))))
      (pss_one (ps_ret (pe_callS (ok__law_in_order T) (hr.mono (by decide)) rfl T.g__law_in_order T.k__law_in_order T.b__law_in_order (fun σ => passAt tk σ) (pa_cons (pv 3) pa_nil)))))),
    (ds_seq (ds_lstOwn (i := 3) da_nil)
      (ds_seq (ds_for (wI := (wRng1 (wCons (wOp gAddI (wC (.int 1)) (wCall 2 (fs__law_draw K) (wcOwn 0 (wcCons (wVar 1) wcNil)))) wNil))) (wg := (wName 4)) (wb := (wSq (wAsg (wCall 2 (fs__law_draw K) (wcOwn 0 (wcCons (wC (.int 5)) wcNil))) (wName 5))
  (wIfS (wAnd (wB (wOp gEq (wVar 5) (wC (.int 0)))) (wB (wOp gGtI (wPeek 3 (fun es q => q (.int es.length))) (wC (.int 0))))) (wAppend 3 (wCons (wCall 2 (fs__law_pick_o1 K) (wcOwn 0 (wcOwn 3 wcNil))) wNil)) (wIfS (wAnd (wB (wOp gEq (wVar 5) (wC (.int 1)))) (wB (wVar 2))) (wAppend 3 (wCons (wCall 2 (fs__law_made K) (wcCons (wOp gAddI (wC (.int 1)) (wCall 2 (fs__law_draw K) (wcOwn 0 (wcCons (wOp gPowI (wC (.int 10)) (wC (.int 6))) wcNil)))) (wcCons (wOp gAddI (wC (.int 1)) (wCall 2 (fs__law_draw K) (wcOwn 0 (wcCons (wC (.int 144)) wcNil)))) wcNil))) wNil)) (wIfS (wB (wOp gEq (wVar 5) (wC (.int 2)))) (wAppend 3 (wCons (wCall 2 (fs__law_made K) (wcCons (wOp gAddI (wC (.int 1)) (wCall 2 (fs__law_draw K) (wcOwn 0 (wcCons (wC (.int 12)) wcNil)))) (wcCons (wOp gAddI (wC (.int 1)) (wCall 2 (fs__law_draw K) (wcOwn 0 (wcCons (wC (.int 4)) wcNil)))) wcNil))) wNil)) (wAppend 3 (wCons (wTup (wCons (wOp gAddI (wC (.int 1)) (wCall 2 (fs__law_draw K) (wcOwn 0 (wcCons (wC (.int 5)) wcNil)))) (wCons (wC (.int 1)) wNil))) wNil))))))) (di_rng1 (da_cons (de_op o_add de_int (de_call (n := 2) (fs := fs__law_draw K) (dac_own (j := 0) (dac_cons (de_var 1) dac_nil)))) da_nil)) (dg_name 4) (ds_seq (ds_asg (de_call (n := 2) (fs := fs__law_draw K) (dac_own (j := 0) (dac_cons de_int dac_nil))) (dg_name 5))
      (ds_if (dt_and (dt_B (de_op o_eq (de_var 5) de_int)) (dt_B (de_op o_gt (de_peek (i := 3) p_len) de_int))) (ds_append (i := 3) (da_cons (de_call (n := 2) (fs := fs__law_pick_o1 K) (dac_own (j := 0) (dac_own (j := 3) dac_nil))) da_nil)) (ds_if (dt_and (dt_B (de_op o_eq (de_var 5) de_int)) (dt_B (de_var 2))) (ds_append (i := 3) (da_cons (de_call (n := 2) (fs := fs__law_made K) (dac_cons (de_op o_add de_int (de_call (n := 2) (fs := fs__law_draw K) (dac_own (j := 0) (dac_cons (de_op o_pow de_int de_int) dac_nil)))) (dac_cons (de_op o_add de_int (de_call (n := 2) (fs := fs__law_draw K) (dac_own (j := 0) (dac_cons de_int dac_nil)))) dac_nil))) da_nil)) (ds_if (dt_B (de_op o_eq (de_var 5) de_int)) (ds_append (i := 3) (da_cons (de_call (n := 2) (fs := fs__law_made K) (dac_cons (de_op o_add de_int (de_call (n := 2) (fs := fs__law_draw K) (dac_own (j := 0) (dac_cons de_int dac_nil)))) (dac_cons (de_op o_add de_int (de_call (n := 2) (fs := fs__law_draw K) (dac_own (j := 0) (dac_cons de_int dac_nil)))) dac_nil))) da_nil)) (ds_append (i := 3) (da_cons (de_tup (da_cons (de_op o_add de_int (de_call (n := 2) (fs := fs__law_draw K) (dac_own (j := 0) (dac_cons de_int dac_nil)))) (da_cons de_int da_nil))) da_nil)))))))
      (ds_ret (de_call (n := 1) (fs := fs__law_in_order K) (dac_cons (de_frz 3) dac_nil)))))⟩
abbrev s__law_pipe : Stmt := topS 57
theorem sc__law_pipe : FnScope ["source", "vessels", "most", "wide", "other"] ["source", "vessels", "most", "wide"] (defScope s__law_pipe) := ⟨rfl, rfl, rfl, by decide +kernel, rfl, by decide +kernel, by decide +kernel⟩
def w__law_pipe (K : PySem.W.Frag) : SW := (wSq (wAsg (wOp gAddI (wC (.int 1)) (wCall 2 (fs__law_draw K) (wcOwn 0 (wcCons (wOp gSubI (wVar 1) (wC (.int 1))) wcNil)))) (wName 4))
  (wRet (wTup (wCons (wCall 2 (fs__law_draw K) (wcOwn 0 (wcCons (wVar 4) wcNil))) (wCons (wVar 4) (wCons (wCall 3 (fs__law_steps K) (wcOwn 0 (wcCons (wVar 2) (wcCons (wVar 3) wcNil)))) wNil))))))
/-- a pipe that is drawn -/
def PipD (v : Int) (d : D) : Prop := ∃ (a b : Int) (es : List D), d = .tup [.int a, .int b, .tup es] ∧ 0 ≤ a ∧ a < b ∧ b < v ∧ StepsD es
theorem pipD_pi {v : Int} {d : D} (h : PipD v d) : isPi v d = true := by
  obtain ⟨a, b, es, rfl, h1, h2, h3, h4⟩ := h
  simp [isPi, stepsD_li h4, isBetw]
  omega
def fs__law_pipe (K : PySem.W.Frag) : FS := fun cs q _ => ∃ (p : Addr) (c : Cont) (v m : Int) (w : Bool), cs = [.own p c, .dat (.int v), .dat (.int m), .dat (.bl w)] ∧ SrcC c ∧ 2 ≤ v ∧ v ≤ 100 ∧ 1 ≤ m ∧ m ≤ 6 ∧ ∀ (c' : Cont) (x : D), SrcC c' → PipD v x → q x [.own p c', .dat (.int v), .dat (.int m), .dat (.bl w)]
theorem pure__law_pipe : PureD 4 1 (fs__law_pipe K) (w__law_pipe K) := by
  rintro cs q e - ⟨p, c, v, m, w, rfl, hc, v2, v1, m1, m6, hq⟩
  simp only [w__law_pipe, fs__law_draw, fs__law_steps, wAugOwn, wEnumL, wTru, wSlA, gCatA, gLtT, gLeT, wFrz, wChain3, wAttr, wMkF, wEnumT, wRevT, wDict0, wDict1, numD3, Nat.reduceAdd, atI0, atI1, atI2, atI3, atI4, ixN51, ixN52, ixN53, List.length_map, wNever, scal, V.int.injEq, V.str.injEq, V.bl.injEq, wSq, wNext, wBreak, wCont, wDrop, wRet, wRetN, wIfS, wAsg, wPar, wLstOwn, wAppend, wSetOwn, wIxOwn, wPeek, wRetOwn, wRetFr, wFor, wB, wNot, wAnd, wOr, wAndV, wOrV, wNotV, wIf, wChain, wNil, wCons, wCB, wTup, wLst, wNoPart, wPart, wSlT, wSlL, wSeq, wRng1, wRng2, wZip, wName, wNilT, wConsT, wTupT, wYes, wNeg, wVar, wC, wOp, wcNil, wcCons, wcOwn, wCall, wCallOwn, slots, cellsOf, OwnArgs, putBack, g2I, g2IC, gLen, gAbs, gGcd, gInt1, gTupleOf, gListOf, gIx, gCatT, gCat, gEq, gNe, gIsN, gNotN, scD, seqD_t, seqD_l, seqD_f, isNonD, List.nodup_cons, List.mem_cons, List.not_mem_nil, or_false, not_false_eq_true, Nat.reduceEqDiff, L3.Keeps, ends, wipeD, List.replicate, List.cons_append, List.nil_append, List.append_nil, List.getElem?_cons_zero, List.getElem?_cons_succ, List.set_cons_zero, List.set_cons_succ, List.getD_cons_zero, List.getD_cons_succ, List.length_cons, List.length_nil, List.nodup_nil, Option.some.injEq, Cell.dat.injEq, Cell.own.injEq, Cont.lst.injEq, D.bl.injEq, D.int.injEq, D.str.injEq, D.tup.injEq, D.lst.injEq, Arg.d.injEq, List.cons.injEq, exists_and_left, exists_and_right, exists_eq_left', exists_eq_left, exists_eq_right, exists_eq_right', exists_eq, exists_eq', and_true, true_and, and_assoc, and_self, exists_const, reduceCtorEq]
  refine ⟨hc, by omega, by omega, fun c1 n hc1 n0 n1 => ⟨hc1, by omega, by omega, fun c2 k hc2 k0 k1 => ⟨hc2, m1, m6, fun c3 es hc3 hl hs => ⟨by decide, ?_⟩⟩⟩⟩
  exact hq c3 _ hc3 ⟨k, 1 + n, es, rfl, k0, k1, by omega, hs⟩
theorem ok__law_pipe (T : Txt K mg) : FnOk P w K mg base (L2.CX P w) 5 T.f__law_pipe T.fd__law_pipe ["source", "vessels", "most", "wide"] (spOf K 4 (fs__law_pipe K)) := by
  refine def_ok T.F__law_pipe sc__law_pipe (wb := w__law_pipe K) pure__law_pipe ?_
  intro cdv A outer s H E hr tk
  exact ⟨_, (pss_cons (ps_set (i := 4) sc__law_pipe.nd rfl (by first | exact Or.inl rfl | exact Or.inr rfl) (pe_op op_add pe_int (pe_callS (ok__law_draw T) (hr.mono (by decide)) rfl T.g__law_draw T.k__law_draw T.b__law_draw (fun σ => passAt tk σ) (pa_cons (pv 0) (pa_cons (pe_op op_sub (pv 1) pe_int) pa_nil)))))
      (pss_one (ps_ret (pe_tup (pa_cons (pe_callS (ok__law_draw T) (hr.mono (by decide)) rfl T.g__law_draw T.k__law_draw T.b__law_draw (fun σ => passAt tk σ) (pa_cons (pv 0) (pa_cons (pv 4) pa_nil))) (pa_cons (pv 4) (pa_cons (pe_callS (ok__law_steps T) (hr.mono (by decide)) rfl T.g__law_steps T.k__law_steps T.b__law_steps (fun σ => passAt tk σ) (pa_cons (pv 0) (pa_cons (pv 2) (pa_cons (pv 3) pa_nil)))) pa_nil))))))),
    (ds_seq (ds_asg (de_op o_add de_int (de_call (n := 2) (fs := fs__law_draw K) (dac_own (j := 0) (dac_cons (de_op o_sub (de_var 1) de_int) dac_nil)))) (dg_name 4))
      (ds_ret (de_tup (da_cons (de_call (n := 2) (fs := fs__law_draw K) (dac_own (j := 0) (dac_cons (de_var 4) dac_nil))) (da_cons (de_var 4) (da_cons (de_call (n := 3) (fs := fs__law_steps K) (dac_own (j := 0) (dac_cons (de_var 2) (dac_cons (de_var 3) dac_nil)))) da_nil))))))⟩
abbrev s__law_with : Stmt := topS 58
theorem sc__law_with : FnScope ["row", "place", "thing"] ["row", "place", "thing"] (defScope s__law_with) := ⟨rfl, rfl, rfl, by decide +kernel, rfl, by decide +kernel, by decide +kernel⟩
def w__law_with (K : PySem.W.Frag) : SW := (wRet (wCB gTupleOf (wCons (wOp gCat (wOp gCat (wCB gListOf (wCons (wSlA (wVar 0) wNoPart (wPart (wVar 1))) wNil)) (wLst (wCons (wVar 2) wNil))) (wCB gListOf (wCons (wSlA (wVar 0) (wPart (wOp gAddI (wVar 1) (wC (.int 1)))) wNoPart) wNil))) wNil)))
def fs__law_with (K : PySem.W.Frag) : FS := fun cs q _ => ∃ (ds : List D) (n : Int) (d : D), cs = [.dat (.tup ds), .dat (.int n), .dat d] ∧ 0 ≤ n ∧ n < ds.length ∧ ds.length ≤ 100 ∧ q (.tup (ds.set n.toNat d)) cs
theorem sIx_nat' (n d k : Nat) : HT.sIx n d (some (k : Int)) = min k n := HT.sIx_nat n d k
theorem pure__law_with : PureD 3 0 (fs__law_with K) (w__law_with K) := by
  rintro cs q e - ⟨ds, n, d, rfl, h0, h1, h2, hq⟩
  obtain ⟨k, rfl⟩ := Int.eq_ofNat_of_zero_le h0
  have w1 : ¬ (HT.sIx ds.length 0 none = 0 ∧ HT.sIx ds.length ds.length (some (k : Int)) = ds.length) := fun ⟨_, z⟩ => by
    rw [sIx_nat'] at z
    omega
  have w2 : ¬ (HT.sIx ds.length 0 (some ((k : Int) + 1)) = 0 ∧ HT.sIx ds.length ds.length none = ds.length) := fun ⟨z, _⟩ => by
    have : ((k : Int) + 1) = ((k + 1 : Nat) : Int) := by omega
    rw [this, sIx_nat'] at z
    omega
  have x1 : cutDs ds none (some (k : Int)) = ds.take k := by
    unfold cutDs
    rw [sIx_nat', HT.sIx_none, List.drop_zero, Nat.sub_zero, Nat.min_eq_left (by omega)]
  have x2 : cutDs ds (some ((k : Int) + 1)) none = ds.drop (k + 1) := by
    have : ((k : Int) + 1) = ((k + 1 : Nat) : Int) := by omega
    unfold cutDs
    rw [this, sIx_nat', HT.sIx_none, Nat.min_eq_left (by omega), List.take_of_length_le (by rw [List.length_drop]; omega)]
  have x3 : ds.take k ++ [d] ++ ds.drop (k + 1) = ds.set k d := by
    rw [List.set_eq_take_append_cons_drop, if_pos (by omega), List.append_assoc]
    rfl
  simp only [w__law_with, seqD_t, seqD_l, wAugOwn, wEnumL, wTru, wSlA, gCatA, gLtT, gLeT, wFrz, wChain3, wAttr, wMkF, wEnumT, wRevT, wDict0, wDict1, numD3, Nat.reduceAdd, atI0, atI1, atI2, atI3, atI4, ixN51, ixN52, ixN53, List.length_map, wNever, scal, V.int.injEq, V.str.injEq, V.bl.injEq, wSq, wNext, wBreak, wCont, wDrop, wRet, wRetN, wIfS, wAsg, wPar, wLstOwn, wAppend, wSetOwn, wIxOwn, wPeek, wRetOwn, wRetFr, wFor, wB, wNot, wAnd, wOr, wAndV, wOrV, wNotV, wIf, wChain, wNil, wCons, wCB, wTup, wLst, wNoPart, wPart, wSlT, wSlL, wSeq, wRng1, wRng2, wZip, wName, wNilT, wConsT, wTupT, wYes, wNeg, wVar, wC, wOp, wcNil, wcCons, wcOwn, wCall, wCallOwn, slots, cellsOf, OwnArgs, putBack, g2I, g2IC, gLen, gAbs, gGcd, gInt1, gTupleOf, gListOf, gIx, gCatT, gCat, gEq, gNe, gIsN, gNotN, scD, seqD_t, seqD_l, seqD_f, isNonD, List.nodup_cons, List.mem_cons, List.not_mem_nil, or_false, not_false_eq_true, Nat.reduceEqDiff, L3.Keeps, ends, wipeD, List.replicate, List.cons_append, List.nil_append, List.append_nil, List.getElem?_cons_zero, List.getElem?_cons_succ, List.set_cons_zero, List.set_cons_succ, List.getD_cons_zero, List.getD_cons_succ, List.length_cons, List.length_nil, List.nodup_nil, Option.some.injEq, Cell.dat.injEq, Cell.own.injEq, Cont.lst.injEq, D.bl.injEq, D.int.injEq, D.str.injEq, D.tup.injEq, D.lst.injEq, Arg.d.injEq, List.cons.injEq, exists_and_left, exists_and_right, exists_eq_left', exists_eq_left, exists_eq_right, exists_eq_right', exists_eq, exists_eq', and_true, true_and, and_assoc, and_self, exists_const, reduceCtorEq]
  rw [x1, x2]

  refine ⟨by decide, ?_, ?_, ?_⟩
  · have := List.length_take_le k ds
    omega
  · rw [List.length_append, List.length_take, List.length_drop]
    simp only [List.length_cons, List.length_nil]
    omega
  · rw [x3]
    exact hq
theorem ok__law_with (T : Txt K mg) : FnOk P w K mg base (L2.CX P w) 1 T.f__law_with T.fd__law_with ["row", "place", "thing"] (spOf K 3 (fs__law_with K)) := by
  refine def_ok T.F__law_with sc__law_with (wb := w__law_with K) pure__law_with ?_
  intro cdv A outer s H E hr tk
  exact ⟨_, (pss_one (ps_ret (pe_callTy call_tuple_of (by rfl) T.z_tuple (by decide +kernel) (pa_cons (pe_op op_cat (pe_op op_cat (pe_callTy call_list_of (by rfl) T.z_list (by decide +kernel) (pa_cons (pe_slice sl_tupA (pv 0) po_none (po_some (pv 1))) pa_nil)) (pe_lst (pa_cons (pv 2) pa_nil))) (pe_callTy call_list_of (by rfl) T.z_list (by decide +kernel) (pa_cons (pe_slice sl_tupA (pv 0) (po_some (pe_op op_add (pv 1) pe_int)) po_none) pa_nil))) pa_nil)))),
    (ds_ret (de_cb o_tupleOf (da_cons (de_op o_cat (de_op o_cat (de_cb o_listOf (da_cons (de_slA (de_var 0) do_no (do_part (de_var 1))) da_nil)) (de_lst (da_cons (de_var 2) da_nil))) (de_cb o_listOf (da_cons (de_slA (de_var 0) (do_part (de_op o_add (de_var 1) de_int)) do_no) da_nil))) da_nil)))⟩
abbrev s__law_joins : Stmt := topS 59
theorem sc__law_joins : FnScope ["source", "sorts", "found", "i", "j"] ["source", "sorts"] (defScope s__law_joins) := ⟨rfl, rfl, rfl, by decide +kernel, rfl, by decide +kernel, by decide +kernel⟩
def l1__law_joins (K : PySem.W.Frag) : SW := wFor (wRng2 (wCons (wVar 3) (wCons (wCB gLen (wCons (wVar 1) wNil)) wNil))) (wName 4) (wIfS (wAnd (wB (wOp gGtI (wOp gAddI (wOp gIx (wOp gIx (wVar 1) (wVar 3)) (wC (.int 0))) (wOp gIx (wOp gIx (wVar 1) (wVar 4)) (wC (.int 0)))) (wC (.int 0)))) (wB (wOp gGtI (wCall 2 (fs__law_draw K) (wcOwn 0 (wcCons (wC (.int 3)) wcNil))) (wC (.int 0))))) (wAppend 2 (wCons (wTup (wCons (wVar 3) (wCons (wVar 4) wNil))) wNil)) wNext)
def l2__law_joins (K : PySem.W.Frag) : SW := wFor (wRng1 (wCons (wCB gLen (wCons (wVar 1) wNil)) wNil)) (wName 3) (l1__law_joins K)
def w__law_joins (K : PySem.W.Frag) : SW := (wSq (wLstOwn 2 wNil)
  (wSq (l2__law_joins K)
  (wRet (wPeek 2 (fun es q => q (.tup es))))))
theorem lexLt2 {a b c d : Int} : HT.lexLt [a, b] [c, d] = (decide (a < c) || (decide (a = c) && decide (b < d))) := by
  show (if a = c then (if b = d then false else decide (b < d)) else decide (a < c)) = _
  by_cases h1 : a = c
  · by_cases h2 : b = d
    · simp [h1, h2]
    · simp [h1, h2]
  · simp [h1]
theorem ascJ_snoc {es : List D} {x : D} (h : ascJ es = true) (h2 : ∀ d ∈ es, ltP (.tup [d, x]) = true) : ascJ (es ++ [x]) = true := by
  unfold ascJ at h ⊢
  rw [List.all_eq_true] at h ⊢
  intro p hp
  unfold zipD at hp h
  obtain ⟨i, hi, rfl⟩ := List.getElem_of_mem hp
  rw [List.length_zipWith, List.length_drop, List.length_append] at hi
  simp only [List.length_cons, List.length_nil] at hi
  rw [List.getElem_zipWith, List.getElem_drop]
  have hlt : i < es.length := by omega
  rw [List.getElem_append_left hlt]
  by_cases z : 1 + i < es.length
  · rw [List.getElem_append_left z]
    refine h _ ?_
    rw [List.mem_iff_getElem]
    refine ⟨i, by rw [List.length_zipWith, List.length_drop]; omega, ?_⟩
    rw [List.getElem_zipWith, List.getElem_drop]
  · rw [List.getElem_append_right (by omega)]
    have : 1 + i - es.length = 0 := by omega
    simp only [this, List.getElem_cons_zero]
    exact h2 _ (List.getElem_mem hlt)
/-- joins of these sorts that are drawn -/
def JoinsD (ss js : List D) : Prop := js.length ≤ 16 ∧ (∀ d ∈ js, isJo ss d = true) ∧ ascJ js = true
def fs__law_joins (K : PySem.W.Frag) : FS := fun cs q _ => ∃ (p : Addr) (c : Cont) (ss : List D), cs = [.own p c, .dat (.tup ss)] ∧ SrcC c ∧ ss.length ≤ 4 ∧ (∀ d ∈ ss, isSo d = true) ∧ ∀ (c' : Cont) (js : List D), SrcC c' → JoinsD ss js → q (.tup js) [.own p c', .dat (.tup ss)]
def LtIJ (i j : Int) (d : D) : Prop := ∃ a b : Int, d = .tup [.int a, .int b] ∧ (a < i ∨ (a = i ∧ b < j))
def InvJ (p0 p : Addr) (ss : List D) (i j : Int) (n : Nat) (τ : List Cell) : Prop := ∃ (c : Cont) (js : List D) (c3 c4 : Cell), τ = [.own p0 c, .dat (.tup ss), .own p (.lst js), c3, c4] ∧ SrcC c ∧ js.length ≤ n ∧ (∀ d ∈ js, isJo ss d = true) ∧ ascJ js = true ∧ ∀ d ∈ js, LtIJ i j d
theorem ltIJ_mono {i j i' j' : Int} {d : D} (h : LtIJ i j d) (h2 : i < i' ∨ (i = i' ∧ j ≤ j')) : LtIJ i' j' d := by
  obtain ⟨a, b, rfl, h⟩ := h
  exact ⟨a, b, rfl, by omega⟩
theorem l1__law_joins_ok {p0 p : Addr} {c : Cont} {ss js : List D} {i : Nat} {c4 : Cell} {E : EndsD} (h4 : ss.length ≤ 4) (hi : i < ss.length) (hs : ∀ d ∈ ss, isSo d = true) (hc : SrcC c) (hl : js.length ≤ 4 * i) (hj : ∀ d ∈ js, isJo ss d = true) (ha : ascJ js = true) (hm : ∀ d ∈ js, LtIJ (i : Int) 0 d)
    (hn : ∀ τ, InvJ p0 p ss ((i : Int) + 1) 0 (4 * (i + 1)) τ → (∃ c js c4, τ = [.own p0 c, .dat (.tup ss), .own p (.lst js), .dat (.int (i : Nat)), c4]) → E.nx τ) : l1__law_joins K E [.own p0 c, .dat (.tup ss), .own p (.lst js), .dat (.int (i : Nat)), c4] := by
  unfold l1__law_joins wFor
  refine ⟨_, rfl, _, rfl, _, ss, rfl, rfl, _, _, rfl, by omega, fun k τ => InvJ p0 p ss i (i + k) (4 * i + k) τ ∧ ∃ c js c4, τ = [.own p0 c, .dat (.tup ss), .own p (.lst js), .dat (.int (i : Nat)), c4], ⟨⟨c, js, _, c4, rfl, hc, by omega, hj, ha, fun d hd => ltIJ_mono (hm d hd) (by omega)⟩, ⟨c, js, c4, rfl⟩⟩, ?_, ?_⟩
  · rintro k d τ2 hk ⟨⟨c, js, c3, c4, e, hc, hl, hj, ha, hm⟩, ⟨c', js', c4', e2⟩⟩
    rw [e2] at e
    injection e with e1 e
    injection e with _ e
    injection e with e3 e
    injection e with e4 e
    cases e1
    cases e3
    subst e2
    have hlt : k < ss.length - i := by
      have := (List.getElem?_eq_some_iff.mp hk).1
      rw [rangeD_length] at this
      omega
    rw [rangeD_get (by omega)] at hk
    cases hk
    obtain ⟨u, a1, u0, u1⟩ := wAt_get (a := (i : Int)) hs (by omega) (by omega)
    obtain ⟨v, a2, v0, v1⟩ := wAt_get (a := (i : Int) + (k : Nat)) hs (by omega) (by omega)
    have keep : InvJ p0 p ss i (i + (k + 1 : Nat)) (4 * i + (k + 1)) [.own p0 c, .dat (.tup ss), .own p (.lst js), .dat (.int (i : Nat)), .dat (.int ((i : Int) + (k : Nat)))] := ⟨c, js, _, _, rfl, hc, by omega, hj, ha, fun d hd => ltIJ_mono (hm d hd) (by omega)⟩
    simp only [fs__law_draw, a1, a2, wAugOwn, wEnumL, wTru, wSlA, gCatA, gLtT, gLeT, wFrz, wChain3, wAttr, wMkF, wEnumT, wRevT, wDict0, wDict1, numD3, Nat.reduceAdd, atI0, atI1, atI2, atI3, atI4, ixN51, ixN52, ixN53, List.length_map, wNever, scal, V.int.injEq, V.str.injEq, V.bl.injEq, wSq, wNext, wBreak, wCont, wDrop, wRet, wRetN, wIfS, wAsg, wPar, wLstOwn, wAppend, wSetOwn, wIxOwn, wPeek, wRetOwn, wRetFr, wFor, wB, wNot, wAnd, wOr, wAndV, wOrV, wNotV, wIf, wChain, wNil, wCons, wCB, wTup, wLst, wNoPart, wPart, wSlT, wSlL, wSeq, wRng1, wRng2, wZip, wName, wNilT, wConsT, wTupT, wYes, wNeg, wVar, wC, wOp, wcNil, wcCons, wcOwn, wCall, wCallOwn, slots, cellsOf, OwnArgs, putBack, g2I, g2IC, gLen, gAbs, gGcd, gInt1, gTupleOf, gListOf, gIx, gCatT, gCat, gEq, gNe, gIsN, gNotN, scD, seqD_t, seqD_l, seqD_f, isNonD, List.nodup_cons, List.mem_cons, List.not_mem_nil, or_false, not_false_eq_true, Nat.reduceEqDiff, L3.Keeps, ends, wipeD, List.replicate, List.cons_append, List.nil_append, List.append_nil, List.getElem?_cons_zero, List.getElem?_cons_succ, List.set_cons_zero, List.set_cons_succ, List.getD_cons_zero, List.getD_cons_succ, List.length_cons, List.length_nil, List.nodup_nil, Option.some.injEq, Cell.dat.injEq, Cell.own.injEq, Cont.lst.injEq, D.bl.injEq, D.int.injEq, D.str.injEq, D.tup.injEq, D.lst.injEq, Arg.d.injEq, List.cons.injEq, exists_and_left, exists_and_right, exists_eq_left', exists_eq_left, exists_eq_right, exists_eq_right', exists_eq, exists_eq', and_true, true_and, and_assoc, and_self, exists_const, reduceCtorEq]
    refine ⟨fun z => ⟨hc, by decide, by decide, fun c1 n hc1 n0 n1 => ⟨fun _ => ⟨by decide, by omega, ?_⟩, fun _ => ?_⟩⟩, fun _ => ⟨fun z => z.elim, fun _ => keep⟩⟩
    · have z := of_decide_eq_true z
      refine ⟨c1, js ++ [.tup [.int (i : Nat), .int ((i : Int) + (k : Nat))]], _, _, rfl, hc1, by rw [List.length_append]; simp; omega, all_snoc hj ?_, ascJ_snoc ha fun d hd => ?_, all_snoc (fun d hd => ltIJ_mono (hm d hd) (by omega)) ⟨_, _, rfl, by omega⟩⟩
      · simp only [isJo, jo, Bool.and_eq_true, Bool.or_eq_true, decide_eq_true_eq]
        refine ⟨⟨⟨by omega, by omega⟩, by omega, by omega⟩, ?_⟩
        by_cases k0 : k = 0
        · subst k0
          right
          have : (i : Int) + (0 : Nat) = (i : Int) := by omega
          rw [this] at z
          omega
        · left
          omega
      · obtain ⟨a, b, rfl, h⟩ := hm d hd
        simp only [ltP, lexLt2, Bool.or_eq_true, Bool.and_eq_true, decide_eq_true_eq]
        omega
    · exact ⟨c1, js, _, _, rfl, hc1, by omega, hj, ha, fun d hd => ltIJ_mono (hm d hd) (by omega)⟩
  · rintro τ2 ⟨⟨c, js, c3, c4, e, hc, hl, hj, ha, hm⟩, h2⟩
    rw [rangeD_length] at hl hm
    exact hn τ2 ⟨c, js, c3, c4, e, hc, by omega, hj, ha, fun d hd => ltIJ_mono (hm d hd) (by omega)⟩ h2
theorem pure__law_joins : PureD 2 3 (fs__law_joins K) (w__law_joins K) := by
  rintro cs q e - ⟨p0, c, ss, rfl, hc, h4, hs, hq⟩
  simp only [w__law_joins, wAugOwn, wEnumL, wTru, wSlA, gCatA, gLtT, gLeT, wFrz, wChain3, wAttr, wMkF, wEnumT, wRevT, wDict0, wDict1, numD3, Nat.reduceAdd, atI0, atI1, atI2, atI3, atI4, ixN51, ixN52, ixN53, List.length_map, wNever, scal, V.int.injEq, V.str.injEq, V.bl.injEq, wSq, wNext, wBreak, wCont, wDrop, wRet, wRetN, wIfS, wAsg, wPar, wLstOwn, wAppend, wSetOwn, wIxOwn, wPeek, wRetOwn, wRetFr, wFor, wB, wNot, wAnd, wOr, wAndV, wOrV, wNotV, wIf, wChain, wNil, wCons, wCB, wTup, wLst, wNoPart, wPart, wSlT, wSlL, wSeq, wRng1, wRng2, wZip, wName, wNilT, wConsT, wTupT, wYes, wNeg, wVar, wC, wOp, wcNil, wcCons, wcOwn, wCall, wCallOwn, slots, cellsOf, OwnArgs, putBack, g2I, g2IC, gLen, gAbs, gGcd, gInt1, gTupleOf, gListOf, gIx, gCatT, gCat, gEq, gNe, gIsN, gNotN, scD, seqD_t, seqD_l, seqD_f, isNonD, List.nodup_cons, List.mem_cons, List.not_mem_nil, or_false, not_false_eq_true, Nat.reduceEqDiff, L3.Keeps, ends, wipeD, List.replicate, List.cons_append, List.nil_append, List.append_nil, List.getElem?_cons_zero, List.getElem?_cons_succ, List.set_cons_zero, List.set_cons_succ, List.getD_cons_zero, List.getD_cons_succ, List.length_cons, List.length_nil, List.nodup_nil, Option.some.injEq, Cell.dat.injEq, Cell.own.injEq, Cont.lst.injEq, D.bl.injEq, D.int.injEq, D.str.injEq, D.tup.injEq, D.lst.injEq, Arg.d.injEq, List.cons.injEq, exists_and_left, exists_and_right, exists_eq_left', exists_eq_left, exists_eq_right, exists_eq_right', exists_eq, exists_eq', and_true, true_and, and_assoc, and_self, exists_const, reduceCtorEq]
  refine ⟨by decide, fun p => ?_⟩
  unfold l2__law_joins wFor
  refine ⟨_, rfl, _, ss, rfl, rfl, _, rfl, by omega, by omega, fun i τ => InvJ p0 p ss i 0 (4 * i) τ, ⟨c, [], _, _, rfl, hc, by simp, fun d h => by simp at h, rfl, fun d h => by simp at h⟩, ?_, ?_⟩
  · rintro i d τ2 hi ⟨c, js, c3, c4, rfl, hc, hl, hj, ha, hm⟩
    have hlt : i < ss.length := by
      have := (List.getElem?_eq_some_iff.mp hi).1
      rw [rangeD_length] at this
      omega
    rw [rangeD_get (by omega)] at hi
    cases hi
    have z0 : (0 : Int) + (i : Nat) = ((i : Nat) : Int) := by omega
    rw [z0]
    exact l1__law_joins_ok h4 hlt hs hc hl hj ha hm fun τ h _ => by
      have : ((i : Int) + 1) = ((i + 1 : Nat) : Int) := by omega
      rw [this] at h
      exact h
  · rintro τ2 ⟨c, js, c3, c4, rfl, hc, hl, hj, ha, hm⟩
    rw [rangeD_length] at hl
    simp only [wAugOwn, wEnumL, wTru, wSlA, gCatA, gLtT, gLeT, wFrz, wChain3, wAttr, wMkF, wEnumT, wRevT, wDict0, wDict1, numD3, Nat.reduceAdd, atI0, atI1, atI2, atI3, atI4, ixN51, ixN52, ixN53, List.length_map, wNever, scal, V.int.injEq, V.str.injEq, V.bl.injEq, wSq, wNext, wBreak, wCont, wDrop, wRet, wRetN, wIfS, wAsg, wPar, wLstOwn, wAppend, wSetOwn, wIxOwn, wPeek, wRetOwn, wRetFr, wFor, wB, wNot, wAnd, wOr, wAndV, wOrV, wNotV, wIf, wChain, wNil, wCons, wCB, wTup, wLst, wNoPart, wPart, wSlT, wSlL, wSeq, wRng1, wRng2, wZip, wName, wNilT, wConsT, wTupT, wYes, wNeg, wVar, wC, wOp, wcNil, wcCons, wcOwn, wCall, wCallOwn, slots, cellsOf, OwnArgs, putBack, g2I, g2IC, gLen, gAbs, gGcd, gInt1, gTupleOf, gListOf, gIx, gCatT, gCat, gEq, gNe, gIsN, gNotN, scD, seqD_t, seqD_l, seqD_f, isNonD, List.nodup_cons, List.mem_cons, List.not_mem_nil, or_false, not_false_eq_true, Nat.reduceEqDiff, L3.Keeps, ends, wipeD, List.replicate, List.cons_append, List.nil_append, List.append_nil, List.getElem?_cons_zero, List.getElem?_cons_succ, List.set_cons_zero, List.set_cons_succ, List.getD_cons_zero, List.getD_cons_succ, List.length_cons, List.length_nil, List.nodup_nil, Option.some.injEq, Cell.dat.injEq, Cell.own.injEq, Cont.lst.injEq, D.bl.injEq, D.int.injEq, D.str.injEq, D.tup.injEq, D.lst.injEq, Arg.d.injEq, List.cons.injEq, exists_and_left, exists_and_right, exists_eq_left', exists_eq_left, exists_eq_right, exists_eq_right', exists_eq, exists_eq', and_true, true_and, and_assoc, and_self, exists_const, reduceCtorEq]
    exact hq c js hc ⟨by omega, hj, ha⟩
theorem ok__law_joins (T : Txt K mg) : FnOk P w K mg base (L2.CX P w) 3 T.f__law_joins T.fd__law_joins ["source", "sorts"] (spOf K 2 (fs__law_joins K)) := by
  refine def_ok T.F__law_joins sc__law_joins (wb := w__law_joins K) pure__law_joins ?_
  intro cdv A outer s H E hr tk
  exact ⟨_, (pss_cons (ps_set (i := 2) sc__law_joins.nd rfl (by first | exact Or.inl rfl | exact Or.inr rfl) (pe_lst pa_nil))
      (pss_cons (ps_for (passes_of rfl) rfl (pi_range1 (by rfl) T.z_range (pa_cons (pe_callB call_len_seq (by rfl) T.z_len (by decide +kernel) (pa_cons (pv 1) pa_nil)) pa_nil)) (pg_name (i := 3) sc__law_joins.nd rfl (by first | exact Or.inl rfl | exact Or.inr rfl))
        (pss_one (ps_for (passes_of rfl) rfl (pi_range2 (by rfl) T.z_range (pa_cons (pv 3) (pa_cons (pe_callB call_len_seq (by rfl) T.z_len (by decide +kernel) (pa_cons (pv 1) pa_nil)) pa_nil))) (pg_name (i := 4) sc__law_joins.nd rfl (by first | exact Or.inl rfl | exact Or.inr rfl))
        (pss_one (ps_if (PW.pt (pw_and (pt_cmpR op_gt (pe_op op_add (pe_ix ix_seq (pe_ix ix_seq (pv 1) (pv 3) (fun _ _ => rfl)) pe_int (fun _ _ => rfl)) (pe_ix ix_seq (pe_ix ix_seq (pv 1) (pv 4) (fun _ _ => rfl)) pe_int (fun _ _ => rfl))) pe_int (nomark _)) (pw_and1 (pt_cmpR op_gt (pe_callS (ok__law_draw T) (hr.mono (by decide)) rfl T.g__law_draw T.k__law_draw T.b__law_draw (fun σ => passAt tk σ) (pa_cons (pv 0) (pa_cons pe_int pa_nil))) pe_int (nomark _)))))
        (pss_one (ps_expr (pe_bm PySem.F.plainAttrs_list PySem.F.slot_list_append PySem.F.type_list_append mt_append (pv 2) (pa_cons (pe_tup (pa_cons (pv 3) (pa_cons (pv 4) pa_nil))) pa_nil))))
        pss_nil)))))
      (pss_one (ps_ret (pe_callTy call_tuple_of (by rfl) T.z_tuple (by decide +kernel) (pa_cons (pv 2) pa_nil)))))),
    (ds_seq (ds_lstOwn (i := 2) da_nil)
      (ds_seq (ds_for (wI := (wRng1 (wCons (wCB gLen (wCons (wVar 1) wNil)) wNil))) (wg := (wName 3)) (wb := (l1__law_joins K)) (di_rng1 (da_cons (de_cb o_len (da_cons (de_var 1) da_nil)) da_nil)) (dg_name 3) (ds_for (wI := (wRng2 (wCons (wVar 3) (wCons (wCB gLen (wCons (wVar 1) wNil)) wNil)))) (wg := (wName 4)) (wb := (wIfS (wAnd (wB (wOp gGtI (wOp gAddI (wOp gIx (wOp gIx (wVar 1) (wVar 3)) (wC (.int 0))) (wOp gIx (wOp gIx (wVar 1) (wVar 4)) (wC (.int 0)))) (wC (.int 0)))) (wB (wOp gGtI (wCall 2 (fs__law_draw K) (wcOwn 0 (wcCons (wC (.int 3)) wcNil))) (wC (.int 0))))) (wAppend 2 (wCons (wTup (wCons (wVar 3) (wCons (wVar 4) wNil))) wNil)) wNext)) (di_rng2 (da_cons (de_var 3) (da_cons (de_cb o_len (da_cons (de_var 1) da_nil)) da_nil))) (dg_name 4) (ds_if (dt_and (dt_B (de_op o_gt (de_op o_add (de_op o_ix (de_op o_ix (de_var 1) (de_var 3)) de_int) (de_op o_ix (de_op o_ix (de_var 1) (de_var 4)) de_int)) de_int)) (dt_B (de_op o_gt (de_call (n := 2) (fs := fs__law_draw K) (dac_own (j := 0) (dac_cons de_int dac_nil))) de_int))) (ds_append (i := 2) (da_cons (de_tup (da_cons (de_var 3) (da_cons (de_var 4) da_nil))) da_nil)) ds_nil)))
      (ds_ret (de_peek (i := 2) p_tupleOf))))⟩
abbrev s__law_sorts : Stmt := topS 60
theorem sc__law_sorts : FnScope ["source", "many", "wide", "sorts", "k"] ["source", "many", "wide"] (defScope s__law_sorts) := ⟨rfl, rfl, rfl, by decide +kernel, rfl, by decide +kernel, by decide +kernel⟩
def l1__law_sorts (K : PySem.W.Frag) : SW := wFor (wRng1 (wCons (wVar 1) wNil)) (wName 4) (wIfS (wB (wVar 2)) (wAppend 3 (wCons (wTup (wCons (wOp gAddI (wC (.int 1)) (wCall 2 (fs__law_draw K) (wcOwn 0 (wcCons (wC (.int 12)) wcNil)))) (wCons (wOp gAddI (wC (.int 1)) (wCall 2 (fs__law_draw K) (wcOwn 0 (wcCons (wC (.int 6)) wcNil)))) wNil))) wNil)) (wAppend 3 (wCons (wTup (wCons (wOp gAddI (wC (.int 1)) (wCall 2 (fs__law_draw K) (wcOwn 0 (wcCons (wC (.int 2)) wcNil)))) (wCons (wOp gAddI (wC (.int 1)) (wCall 2 (fs__law_draw K) (wcOwn 0 (wcCons (wC (.int 4)) wcNil)))) wNil))) wNil)))
def w__law_sorts (K : PySem.W.Frag) : SW := (wSq (wLstOwn 3 wNil)
  (wSq (l1__law_sorts K)
  (wSq (wIfS (wB (wOp gEq (wCall 2 (fs__law_draw K) (wcOwn 0 (wcCons (wC (.int 3)) wcNil))) (wC (.int 0)))) (wSetOwn 3 (wTup (wCons (wC (.int 0)) (wCons (wOp gAddI (wC (.int 1)) (wCall 2 (fs__law_draw K) (wcOwn 0 (wcCons (wC (.int 6)) wcNil)))) wNil))) (wCall 2 (fs__law_draw K) (wcOwn 0 (wcCons (wVar 1) wcNil)))) wNext)
  (wRet (wPeek 3 (fun es q => q (.tup es)))))))
theorem ixN_lt {n j : Nat} (h : j < n) : ixN n (j : Int) = some j := by
  unfold ixN
  rw [if_pos (by omega)]
  simp
  omega
theorem sea_set {x : D} : ∀ {ss : List D} (n : Nat), ss.filter isSea = [] → ((ss.set n x).filter isSea).length ≤ 1
  | [], _, _ => by simp
  | y :: r, n, h => by
    have hy : isSea y = false := by
      cases z : isSea y with
      | false => rfl
      | true => rw [List.filter_cons_of_pos z] at h; cases h
    have hr : r.filter isSea = [] := by
      rw [List.filter_cons_of_neg (by rw [hy]; simp)] at h
      exact h
    cases n with
    | zero =>
      rw [List.set_cons_zero]
      by_cases z : isSea x = true
      · rw [List.filter_cons_of_pos z, hr]
        simp
      · rw [List.filter_cons_of_neg z, hr]
        simp
    | succ n =>
      rw [List.set_cons_succ, List.filter_cons_of_neg (by rw [hy]; simp)]
      exact sea_set n hr
/-- sorts that are drawn -/
def SortsD (ss : List D) : Prop := (∀ d ∈ ss, isSo d = true) ∧ (ss.filter isSea).length ≤ 1
def fs__law_sorts (K : PySem.W.Frag) : FS := fun cs q _ => ∃ (p : Addr) (c : Cont) (m : Int) (w : Bool), cs = [.own p c, .dat (.int m), .dat (.bl w)] ∧ SrcC c ∧ 1 ≤ m ∧ m ≤ 4 ∧ ∀ (c' : Cont) (ss : List D), SrcC c' → (ss.length : Int) = m → SortsD ss → q (.tup ss) [.own p c', .dat (.int m), .dat (.bl w)]
def InvSr (p0 p : Addr) (m : Int) (w : Bool) (i : Nat) (τ : List Cell) : Prop := ∃ (c : Cont) (ss : List D) (c4 : Cell), τ = [.own p0 c, .dat (.int m), .dat (.bl w), .own p (.lst ss), c4] ∧ SrcC c ∧ ss.length = i ∧ ∀ d ∈ ss, isSo d = true ∧ isSea d = false
theorem so_mk {a b : Int} (a0 : 0 ≤ a) (a1 : a ≤ 12) (b0 : 1 ≤ b) (b1 : b ≤ 6) : isSo (.tup [.int a, .int b]) = true := by
  simp only [isSo, isBetw, Bool.and_eq_true, decide_eq_true_eq]
  omega
theorem pure__law_sorts : PureD 3 2 (fs__law_sorts K) (w__law_sorts K) := by
  rintro cs q e - ⟨p0, c, m, w, rfl, hc, m1, m4, hq⟩
  simp only [w__law_sorts, wAugOwn, wEnumL, wTru, wSlA, gCatA, gLtT, gLeT, wFrz, wChain3, wAttr, wMkF, wEnumT, wRevT, wDict0, wDict1, numD3, Nat.reduceAdd, atI0, atI1, atI2, atI3, atI4, ixN51, ixN52, ixN53, List.length_map, wNever, scal, V.int.injEq, V.str.injEq, V.bl.injEq, wSq, wNext, wBreak, wCont, wDrop, wRet, wRetN, wIfS, wAsg, wPar, wLstOwn, wAppend, wSetOwn, wIxOwn, wPeek, wRetOwn, wRetFr, wFor, wB, wNot, wAnd, wOr, wAndV, wOrV, wNotV, wIf, wChain, wNil, wCons, wCB, wTup, wLst, wNoPart, wPart, wSlT, wSlL, wSeq, wRng1, wRng2, wZip, wName, wNilT, wConsT, wTupT, wYes, wNeg, wVar, wC, wOp, wcNil, wcCons, wcOwn, wCall, wCallOwn, slots, cellsOf, OwnArgs, putBack, g2I, g2IC, gLen, gAbs, gGcd, gInt1, gTupleOf, gListOf, gIx, gCatT, gCat, gEq, gNe, gIsN, gNotN, scD, seqD_t, seqD_l, seqD_f, isNonD, List.nodup_cons, List.mem_cons, List.not_mem_nil, or_false, not_false_eq_true, Nat.reduceEqDiff, L3.Keeps, ends, wipeD, List.replicate, List.cons_append, List.nil_append, List.append_nil, List.getElem?_cons_zero, List.getElem?_cons_succ, List.set_cons_zero, List.set_cons_succ, List.getD_cons_zero, List.getD_cons_succ, List.length_cons, List.length_nil, List.nodup_nil, Option.some.injEq, Cell.dat.injEq, Cell.own.injEq, Cont.lst.injEq, D.bl.injEq, D.int.injEq, D.str.injEq, D.tup.injEq, D.lst.injEq, Arg.d.injEq, List.cons.injEq, exists_and_left, exists_and_right, exists_eq_left', exists_eq_left, exists_eq_right, exists_eq_right', exists_eq, exists_eq', and_true, true_and, and_assoc, and_self, exists_const, reduceCtorEq]
  refine ⟨by decide, fun p => ?_⟩
  unfold l1__law_sorts wFor
  refine ⟨_, rfl, m, rfl, by omega, by omega, InvSr p0 p m w, ⟨c, [], _, rfl, hc, rfl, fun d h => by simp at h⟩, ?_, ?_⟩
  · rintro i d τ2 hi ⟨c, ss, c4, rfl, hc, hl, hs⟩
    have hlt : i < 4 := by
      have := (List.getElem?_eq_some_iff.mp hi).1
      rw [rangeD_length] at this
      omega
    have mk : ∀ (c' : Cont) (a b : Int), SrcC c' → 1 ≤ a → a ≤ 12 → 1 ≤ b → b ≤ 6 → ss.length < 1000 ∧ InvSr p0 p m w (i + 1) [.own p0 c', .dat (.int m), .dat (.bl w), .own p (.lst (ss ++ [.tup [.int a, .int b]])), .dat d] := fun c' a b hc' a0 a1 b0 b1 => by
      refine ⟨by omega, c', _, _, rfl, hc', by rw [List.length_append, hl]; rfl, all_snoc hs ⟨so_mk (by omega) a1 b0 b1, ?_⟩⟩
      show decide (a = 0) = false
      exact decide_eq_false (by omega)
    simp only [fs__law_draw, wAugOwn, wEnumL, wTru, wSlA, gCatA, gLtT, gLeT, wFrz, wChain3, wAttr, wMkF, wEnumT, wRevT, wDict0, wDict1, numD3, Nat.reduceAdd, atI0, atI1, atI2, atI3, atI4, ixN51, ixN52, ixN53, List.length_map, wNever, scal, V.int.injEq, V.str.injEq, V.bl.injEq, wSq, wNext, wBreak, wCont, wDrop, wRet, wRetN, wIfS, wAsg, wPar, wLstOwn, wAppend, wSetOwn, wIxOwn, wPeek, wRetOwn, wRetFr, wFor, wB, wNot, wAnd, wOr, wAndV, wOrV, wNotV, wIf, wChain, wNil, wCons, wCB, wTup, wLst, wNoPart, wPart, wSlT, wSlL, wSeq, wRng1, wRng2, wZip, wName, wNilT, wConsT, wTupT, wYes, wNeg, wVar, wC, wOp, wcNil, wcCons, wcOwn, wCall, wCallOwn, slots, cellsOf, OwnArgs, putBack, g2I, g2IC, gLen, gAbs, gGcd, gInt1, gTupleOf, gListOf, gIx, gCatT, gCat, gEq, gNe, gIsN, gNotN, scD, seqD_t, seqD_l, seqD_f, isNonD, List.nodup_cons, List.mem_cons, List.not_mem_nil, or_false, not_false_eq_true, Nat.reduceEqDiff, L3.Keeps, ends, wipeD, List.replicate, List.cons_append, List.nil_append, List.append_nil, List.getElem?_cons_zero, List.getElem?_cons_succ, List.set_cons_zero, List.set_cons_succ, List.getD_cons_zero, List.getD_cons_succ, List.length_cons, List.length_nil, List.nodup_nil, Option.some.injEq, Cell.dat.injEq, Cell.own.injEq, Cont.lst.injEq, D.bl.injEq, D.int.injEq, D.str.injEq, D.tup.injEq, D.lst.injEq, Arg.d.injEq, List.cons.injEq, exists_and_left, exists_and_right, exists_eq_left', exists_eq_left, exists_eq_right, exists_eq_right', exists_eq, exists_eq', and_true, true_and, and_assoc, and_self, exists_const, reduceCtorEq]
    cases w
    · refine ⟨fun z => (nomatch z), fun _ => ⟨hc, by decide, by decide, fun c1 a hc1 a0 a1 => ⟨hc1, by decide, by decide, fun c2 b hc2 b0 b1 => ⟨by decide, ?_⟩⟩⟩⟩
      exact mk c2 _ _ hc2 (by omega) (by omega) (by omega) (by omega)
    · refine ⟨fun _ => ⟨hc, by decide, by decide, fun c1 a hc1 a0 a1 => ⟨hc1, by decide, by decide, fun c2 b hc2 b0 b1 => ⟨by decide, ?_⟩⟩⟩, fun z => (nomatch z)⟩
      exact mk c2 _ _ hc2 (by omega) (by omega) (by omega) (by omega)
  · rintro τ2 ⟨c, ss, c4, rfl, hc, hl, hs⟩
    rw [rangeD_length] at hl
    have f0 : ss.filter isSea = [] := List.filter_eq_nil_iff.mpr fun d hd => by rw [(hs d hd).2]; simp
    simp only [fs__law_draw, wAugOwn, wEnumL, wTru, wSlA, gCatA, gLtT, gLeT, wFrz, wChain3, wAttr, wMkF, wEnumT, wRevT, wDict0, wDict1, numD3, Nat.reduceAdd, atI0, atI1, atI2, atI3, atI4, ixN51, ixN52, ixN53, List.length_map, wNever, scal, V.int.injEq, V.str.injEq, V.bl.injEq, wSq, wNext, wBreak, wCont, wDrop, wRet, wRetN, wIfS, wAsg, wPar, wLstOwn, wAppend, wSetOwn, wIxOwn, wPeek, wRetOwn, wRetFr, wFor, wB, wNot, wAnd, wOr, wAndV, wOrV, wNotV, wIf, wChain, wNil, wCons, wCB, wTup, wLst, wNoPart, wPart, wSlT, wSlL, wSeq, wRng1, wRng2, wZip, wName, wNilT, wConsT, wTupT, wYes, wNeg, wVar, wC, wOp, wcNil, wcCons, wcOwn, wCall, wCallOwn, slots, cellsOf, OwnArgs, putBack, g2I, g2IC, gLen, gAbs, gGcd, gInt1, gTupleOf, gListOf, gIx, gCatT, gCat, gEq, gNe, gIsN, gNotN, scD, seqD_t, seqD_l, seqD_f, isNonD, List.nodup_cons, List.mem_cons, List.not_mem_nil, or_false, not_false_eq_true, Nat.reduceEqDiff, L3.Keeps, ends, wipeD, List.replicate, List.cons_append, List.nil_append, List.append_nil, List.getElem?_cons_zero, List.getElem?_cons_succ, List.set_cons_zero, List.set_cons_succ, List.getD_cons_zero, List.getD_cons_succ, List.length_cons, List.length_nil, List.nodup_nil, Option.some.injEq, Cell.dat.injEq, Cell.own.injEq, Cont.lst.injEq, D.bl.injEq, D.int.injEq, D.str.injEq, D.tup.injEq, D.lst.injEq, Arg.d.injEq, List.cons.injEq, exists_and_left, exists_and_right, exists_eq_left', exists_eq_left, exists_eq_right, exists_eq_right', exists_eq, exists_eq', and_true, true_and, and_assoc, and_self, exists_const, reduceCtorEq]
    refine ⟨hc, by decide, by decide, fun c1 n hc1 n0 n1 => ⟨fun _ => ⟨hc1, by decide, by decide, fun c2 b hc2 b0 b1 => ⟨by decide, hc2, by omega, by omega, fun c3 k hc3 k0 k1 => ?_⟩⟩, fun _ => ?_⟩⟩
    · obtain ⟨j, rfl⟩ := Int.eq_ofNat_of_zero_le k0
      refine ⟨j, ixN_lt (by omega), hq c3 _ hc3 (by rw [List.length_set]; omega) ⟨fun d hd => ?_, sea_set j f0⟩⟩
      rcases List.mem_or_eq_of_mem_set hd with h | rfl
      · exact (hs d h).1
      · exact so_mk (by decide) (by decide) (by omega) (by omega)
    · exact hq c1 ss hc1 (by omega) ⟨fun d hd => (hs d hd).1, by rw [f0]; simp⟩
theorem ok__law_sorts (T : Txt K mg) : FnOk P w K mg base (L2.CX P w) 3 T.f__law_sorts T.fd__law_sorts ["source", "many", "wide"] (spOf K 3 (fs__law_sorts K)) := by
  refine def_ok T.F__law_sorts sc__law_sorts (wb := w__law_sorts K) pure__law_sorts ?_
  intro cdv A outer s H E hr tk
  exact ⟨_, (pss_cons (ps_set (i := 3) sc__law_sorts.nd rfl (by first | exact Or.inl rfl | exact Or.inr rfl) (pe_lst pa_nil))
      (pss_cons (ps_for (passes_of rfl) rfl (pi_range1 (by rfl) T.z_range (pa_cons (pv 1) pa_nil)) (pg_name (i := 4) sc__law_sorts.nd rfl (by first | exact Or.inl rfl | exact Or.inr rfl))
        (pss_one (ps_if (pt_val (pv 2))
        (pss_one (ps_expr (pe_bm PySem.F.plainAttrs_list PySem.F.slot_list_append PySem.F.type_list_append mt_append (pv 3) (pa_cons (pe_tup (pa_cons (pe_op op_add pe_int (pe_callS (ok__law_draw T) (hr.mono (by decide)) rfl T.g__law_draw T.k__law_draw T.b__law_draw (fun σ => passAt tk σ) (pa_cons (pv 0) (pa_cons pe_int pa_nil)))) (pa_cons (pe_op op_add pe_int (pe_callS (ok__law_draw T) (hr.mono (by decide)) rfl T.g__law_draw T.k__law_draw T.b__law_draw (fun σ => passAt tk σ) (pa_cons (pv 0) (pa_cons pe_int pa_nil)))) pa_nil))) pa_nil))))
        (pss_one (ps_expr (pe_bm PySem.F.plainAttrs_list PySem.F.slot_list_append PySem.F.type_list_append mt_append (pv 3) (pa_cons (pe_tup (pa_cons (pe_op op_add pe_int (pe_callS (ok__law_draw T) (hr.mono (by decide)) rfl T.g__law_draw T.k__law_draw T.b__law_draw (fun σ => passAt tk σ) (pa_cons (pv 0) (pa_cons pe_int pa_nil)))) (pa_cons (pe_op op_add pe_int (pe_callS (ok__law_draw T) (hr.mono (by decide)) rfl T.g__law_draw T.k__law_draw T.b__law_draw (fun σ => passAt tk σ) (pa_cons (pv 0) (pa_cons pe_int pa_nil)))) pa_nil))) pa_nil)))))))
      (pss_cons (ps_if (pt_cmpR op_eq (pe_callS (ok__law_draw T) (hr.mono (by decide)) rfl T.g__law_draw T.k__law_draw T.b__law_draw (fun σ => passAt tk σ) (pa_cons (pv 0) (pa_cons pe_int pa_nil))) pe_int (nomark _))
        (pss_one (ps_asg (pe_tup (pa_cons pe_int (pa_cons (pe_op op_add pe_int (pe_callS (ok__law_draw T) (hr.mono (by decide)) rfl T.g__law_draw T.k__law_draw T.b__law_draw (fun σ => passAt tk σ) (pa_cons (pv 0) (pa_cons pe_int pa_nil)))) pa_nil))) (pg_sub (pv 3) (pe_callS (ok__law_draw T) (hr.mono (by decide)) rfl T.g__law_draw T.k__law_draw T.b__law_draw (fun σ => passAt tk σ) (pa_cons (pv 0) (pa_cons (pv 1) pa_nil))) set_list)))
        pss_nil)
      (pss_one (ps_ret (pe_callTy call_tuple_of (by rfl) T.z_tuple (by decide +kernel) (pa_cons (pv 3) pa_nil))))))),
    (ds_seq (ds_lstOwn (i := 3) da_nil)
      (ds_seq (ds_for (wI := (wRng1 (wCons (wVar 1) wNil))) (wg := (wName 4)) (wb := (wIfS (wB (wVar 2)) (wAppend 3 (wCons (wTup (wCons (wOp gAddI (wC (.int 1)) (wCall 2 (fs__law_draw K) (wcOwn 0 (wcCons (wC (.int 12)) wcNil)))) (wCons (wOp gAddI (wC (.int 1)) (wCall 2 (fs__law_draw K) (wcOwn 0 (wcCons (wC (.int 6)) wcNil)))) wNil))) wNil)) (wAppend 3 (wCons (wTup (wCons (wOp gAddI (wC (.int 1)) (wCall 2 (fs__law_draw K) (wcOwn 0 (wcCons (wC (.int 2)) wcNil)))) (wCons (wOp gAddI (wC (.int 1)) (wCall 2 (fs__law_draw K) (wcOwn 0 (wcCons (wC (.int 4)) wcNil)))) wNil))) wNil)))) (di_rng1 (da_cons (de_var 1) da_nil)) (dg_name 4) (ds_if (dt_B (de_var 2)) (ds_append (i := 3) (da_cons (de_tup (da_cons (de_op o_add de_int (de_call (n := 2) (fs := fs__law_draw K) (dac_own (j := 0) (dac_cons de_int dac_nil)))) (da_cons (de_op o_add de_int (de_call (n := 2) (fs := fs__law_draw K) (dac_own (j := 0) (dac_cons de_int dac_nil)))) da_nil))) da_nil)) (ds_append (i := 3) (da_cons (de_tup (da_cons (de_op o_add de_int (de_call (n := 2) (fs := fs__law_draw K) (dac_own (j := 0) (dac_cons de_int dac_nil)))) (da_cons (de_op o_add de_int (de_call (n := 2) (fs := fs__law_draw K) (dac_own (j := 0) (dac_cons de_int dac_nil)))) da_nil))) da_nil))))
      (ds_seq (ds_if (dt_B (de_op o_eq (de_call (n := 2) (fs := fs__law_draw K) (dac_own (j := 0) (dac_cons de_int dac_nil))) de_int)) (ds_setOwn (i := 3) (de_tup (da_cons de_int (da_cons (de_op o_add de_int (de_call (n := 2) (fs := fs__law_draw K) (dac_own (j := 0) (dac_cons de_int dac_nil)))) da_nil))) (de_call (n := 2) (fs := fs__law_draw K) (dac_own (j := 0) (dac_cons (de_var 1) dac_nil)))) ds_nil)
      (ds_ret (de_peek (i := 3) p_tupleOf)))))⟩
abbrev s__law_kinds : Stmt := topS 61
theorem sc__law_kinds : FnScope ["source", "sorts", "many", "wide", "kinds", "k", "steps", "joins"] ["source", "sorts", "many", "wide"] (defScope s__law_kinds) := ⟨rfl, rfl, rfl, by decide +kernel, rfl, by decide +kernel, by decide +kernel⟩
def l1__law_kinds (K : PySem.W.Frag) : SW := wFor (wRng1 (wCons (wVar 2) wNil)) (wName 5) (wSq (wAsg (wCall 3 (fs__law_steps K) (wcOwn 0 (wcCons (wC (.int 6)) (wcCons (wVar 3) wcNil)))) (wName 6))
  (wSq (wAsg (wCall 2 (fs__law_joins K) (wcOwn 0 (wcCons (wVar 1) wcNil))) (wName 7))
  (wIfS (wB (wOp gGtI (wCB gLen (wCons (wVar 7) wNil)) (wC (.int 0)))) (wAppend 4 (wCons (wTup (wCons (wVar 6) (wCons (wVar 7) wNil))) wNil)) wNext)))
def w__law_kinds (K : PySem.W.Frag) : SW := (wSq (wLstOwn 4 wNil)
  (wSq (l1__law_kinds K)
  (wRet (wPeek 4 (fun es q => q (.tup es))))))
/-- a kind that is drawn -/
def KindD (ss : List D) (d : D) : Prop := ∃ es js : List D, d = .tup [.tup es, .tup js] ∧ StepsD es ∧ 1 ≤ js.length ∧ JoinsD ss js
theorem kindD_ki {ss : List D} {d : D} (h : KindD ss d) : isKi ss d = true := by
  obtain ⟨es, js, rfl, h1, h2, h3, h4, h5⟩ := h
  have n : js.isEmpty = false := by cases js <;> simp at h2 ⊢
  simp only [isKi, stepsD_li h1, n, List.all_eq_true.mpr h4, h5, Bool.not_false, Bool.and_self]
def fs__law_kinds (K : PySem.W.Frag) : FS := fun cs q _ => ∃ (p : Addr) (c : Cont) (ss : List D) (m : Int) (w : Bool), cs = [.own p c, .dat (.tup ss), .dat (.int m), .dat (.bl w)] ∧ SrcC c ∧ ss.length ≤ 4 ∧ (∀ d ∈ ss, isSo d = true) ∧ 0 ≤ m ∧ m ≤ 5 ∧ ∀ (c' : Cont) (ks : List D), SrcC c' → (ks.length : Int) ≤ m → (∀ d ∈ ks, KindD ss d) → q (.tup ks) [.own p c', .dat (.tup ss), .dat (.int m), .dat (.bl w)]
def InvKn (p0 p : Addr) (ss : List D) (m : Int) (w : Bool) (i : Nat) (τ : List Cell) : Prop := ∃ (c : Cont) (ks : List D) (c5 c6 c7 : Cell), τ = [.own p0 c, .dat (.tup ss), .dat (.int m), .dat (.bl w), .own p (.lst ks), c5, c6, c7] ∧ SrcC c ∧ ks.length ≤ i ∧ ∀ d ∈ ks, KindD ss d
theorem pure__law_kinds : PureD 4 4 (fs__law_kinds K) (w__law_kinds K) := by
  rintro cs q e - ⟨p0, c, ss, m, w, rfl, hc, h4, hs, m0, m5, hq⟩
  simp only [w__law_kinds, wAugOwn, wEnumL, wTru, wSlA, gCatA, gLtT, gLeT, wFrz, wChain3, wAttr, wMkF, wEnumT, wRevT, wDict0, wDict1, numD3, Nat.reduceAdd, atI0, atI1, atI2, atI3, atI4, ixN51, ixN52, ixN53, List.length_map, wNever, scal, V.int.injEq, V.str.injEq, V.bl.injEq, wSq, wNext, wBreak, wCont, wDrop, wRet, wRetN, wIfS, wAsg, wPar, wLstOwn, wAppend, wSetOwn, wIxOwn, wPeek, wRetOwn, wRetFr, wFor, wB, wNot, wAnd, wOr, wAndV, wOrV, wNotV, wIf, wChain, wNil, wCons, wCB, wTup, wLst, wNoPart, wPart, wSlT, wSlL, wSeq, wRng1, wRng2, wZip, wName, wNilT, wConsT, wTupT, wYes, wNeg, wVar, wC, wOp, wcNil, wcCons, wcOwn, wCall, wCallOwn, slots, cellsOf, OwnArgs, putBack, g2I, g2IC, gLen, gAbs, gGcd, gInt1, gTupleOf, gListOf, gIx, gCatT, gCat, gEq, gNe, gIsN, gNotN, scD, seqD_t, seqD_l, seqD_f, isNonD, List.nodup_cons, List.mem_cons, List.not_mem_nil, or_false, not_false_eq_true, Nat.reduceEqDiff, L3.Keeps, ends, wipeD, List.replicate, List.cons_append, List.nil_append, List.append_nil, List.getElem?_cons_zero, List.getElem?_cons_succ, List.set_cons_zero, List.set_cons_succ, List.getD_cons_zero, List.getD_cons_succ, List.length_cons, List.length_nil, List.nodup_nil, Option.some.injEq, Cell.dat.injEq, Cell.own.injEq, Cont.lst.injEq, D.bl.injEq, D.int.injEq, D.str.injEq, D.tup.injEq, D.lst.injEq, Arg.d.injEq, List.cons.injEq, exists_and_left, exists_and_right, exists_eq_left', exists_eq_left, exists_eq_right, exists_eq_right', exists_eq, exists_eq', and_true, true_and, and_assoc, and_self, exists_const, reduceCtorEq]
  refine ⟨by decide, fun p => ?_⟩
  unfold l1__law_kinds wFor
  refine ⟨_, rfl, m, rfl, by omega, by omega, InvKn p0 p ss m w, ⟨c, [], _, _, _, rfl, hc, by simp, fun d h => by simp at h⟩, ?_, ?_⟩
  · rintro i d τ2 hi ⟨c, ks, c5, c6, c7, rfl, hc, hl, hk⟩
    have hlt : i < 5 := by
      have := (List.getElem?_eq_some_iff.mp hi).1
      rw [rangeD_length] at this
      omega
    simp only [fs__law_steps, fs__law_joins, seqD_t, wAugOwn, wEnumL, wTru, wSlA, gCatA, gLtT, gLeT, wFrz, wChain3, wAttr, wMkF, wEnumT, wRevT, wDict0, wDict1, numD3, Nat.reduceAdd, atI0, atI1, atI2, atI3, atI4, ixN51, ixN52, ixN53, List.length_map, wNever, scal, V.int.injEq, V.str.injEq, V.bl.injEq, wSq, wNext, wBreak, wCont, wDrop, wRet, wRetN, wIfS, wAsg, wPar, wLstOwn, wAppend, wSetOwn, wIxOwn, wPeek, wRetOwn, wRetFr, wFor, wB, wNot, wAnd, wOr, wAndV, wOrV, wNotV, wIf, wChain, wNil, wCons, wCB, wTup, wLst, wNoPart, wPart, wSlT, wSlL, wSeq, wRng1, wRng2, wZip, wName, wNilT, wConsT, wTupT, wYes, wNeg, wVar, wC, wOp, wcNil, wcCons, wcOwn, wCall, wCallOwn, slots, cellsOf, OwnArgs, putBack, g2I, g2IC, gLen, gAbs, gGcd, gInt1, gTupleOf, gListOf, gIx, gCatT, gCat, gEq, gNe, gIsN, gNotN, scD, seqD_t, seqD_l, seqD_f, isNonD, List.nodup_cons, List.mem_cons, List.not_mem_nil, or_false, not_false_eq_true, Nat.reduceEqDiff, L3.Keeps, ends, wipeD, List.replicate, List.cons_append, List.nil_append, List.append_nil, List.getElem?_cons_zero, List.getElem?_cons_succ, List.set_cons_zero, List.set_cons_succ, List.getD_cons_zero, List.getD_cons_succ, List.length_cons, List.length_nil, List.nodup_nil, Option.some.injEq, Cell.dat.injEq, Cell.own.injEq, Cont.lst.injEq, D.bl.injEq, D.int.injEq, D.str.injEq, D.tup.injEq, D.lst.injEq, Arg.d.injEq, List.cons.injEq, exists_and_left, exists_and_right, exists_eq_left', exists_eq_left, exists_eq_right, exists_eq_right', exists_eq, exists_eq', and_true, true_and, and_assoc, and_self, exists_const, reduceCtorEq]
    refine ⟨hc, by decide, by decide, fun c1 es hc1 _ he => ⟨hc1, h4, hs, fun c2 js hc2 hj => ⟨fun z => ⟨by decide, by omega, ?_⟩, fun _ => ?_⟩⟩⟩
    · have z := of_decide_eq_true z
      exact ⟨c2, ks ++ [.tup [.tup es, .tup js]], _, _, _, rfl, hc2, by rw [List.length_append]; simp; omega, all_snoc hk ⟨es, js, rfl, he, by omega, hj⟩⟩
    · exact ⟨c2, ks, _, _, _, rfl, hc2, by omega, hk⟩
  · rintro τ2 ⟨c, ks, c5, c6, c7, rfl, hc, hl, hk⟩
    rw [rangeD_length] at hl
    simp only [wAugOwn, wEnumL, wTru, wSlA, gCatA, gLtT, gLeT, wFrz, wChain3, wAttr, wMkF, wEnumT, wRevT, wDict0, wDict1, numD3, Nat.reduceAdd, atI0, atI1, atI2, atI3, atI4, ixN51, ixN52, ixN53, List.length_map, wNever, scal, V.int.injEq, V.str.injEq, V.bl.injEq, wSq, wNext, wBreak, wCont, wDrop, wRet, wRetN, wIfS, wAsg, wPar, wLstOwn, wAppend, wSetOwn, wIxOwn, wPeek, wRetOwn, wRetFr, wFor, wB, wNot, wAnd, wOr, wAndV, wOrV, wNotV, wIf, wChain, wNil, wCons, wCB, wTup, wLst, wNoPart, wPart, wSlT, wSlL, wSeq, wRng1, wRng2, wZip, wName, wNilT, wConsT, wTupT, wYes, wNeg, wVar, wC, wOp, wcNil, wcCons, wcOwn, wCall, wCallOwn, slots, cellsOf, OwnArgs, putBack, g2I, g2IC, gLen, gAbs, gGcd, gInt1, gTupleOf, gListOf, gIx, gCatT, gCat, gEq, gNe, gIsN, gNotN, scD, seqD_t, seqD_l, seqD_f, isNonD, List.nodup_cons, List.mem_cons, List.not_mem_nil, or_false, not_false_eq_true, Nat.reduceEqDiff, L3.Keeps, ends, wipeD, List.replicate, List.cons_append, List.nil_append, List.append_nil, List.getElem?_cons_zero, List.getElem?_cons_succ, List.set_cons_zero, List.set_cons_succ, List.getD_cons_zero, List.getD_cons_succ, List.length_cons, List.length_nil, List.nodup_nil, Option.some.injEq, Cell.dat.injEq, Cell.own.injEq, Cont.lst.injEq, D.bl.injEq, D.int.injEq, D.str.injEq, D.tup.injEq, D.lst.injEq, Arg.d.injEq, List.cons.injEq, exists_and_left, exists_and_right, exists_eq_left', exists_eq_left, exists_eq_right, exists_eq_right', exists_eq, exists_eq', and_true, true_and, and_assoc, and_self, exists_const, reduceCtorEq]
    exact hq c ks hc (by omega) hk
theorem ok__law_kinds (T : Txt K mg) : FnOk P w K mg base (L2.CX P w) 5 T.f__law_kinds T.fd__law_kinds ["source", "sorts", "many", "wide"] (spOf K 4 (fs__law_kinds K)) := by
  refine def_ok T.F__law_kinds sc__law_kinds (wb := w__law_kinds K) pure__law_kinds ?_
  intro cdv A outer s H E hr tk
  exact ⟨_, (pss_cons (ps_set (i := 4) sc__law_kinds.nd rfl (by first | exact Or.inl rfl | exact Or.inr rfl) (pe_lst pa_nil))
      (pss_cons (ps_for (passes_of rfl) rfl (pi_range1 (by rfl) T.z_range (pa_cons (pv 2) pa_nil)) (pg_name (i := 5) sc__law_kinds.nd rfl (by first | exact Or.inl rfl | exact Or.inr rfl))
        (pss_cons (ps_set (i := 6) sc__law_kinds.nd rfl (by first | exact Or.inl rfl | exact Or.inr rfl) (pe_callS (ok__law_steps T) (hr.mono (by decide)) rfl T.g__law_steps T.k__law_steps T.b__law_steps (fun σ => passAt tk σ) (pa_cons (pv 0) (pa_cons pe_int (pa_cons (pv 3) pa_nil)))))
      (pss_cons (ps_set (i := 7) sc__law_kinds.nd rfl (by first | exact Or.inl rfl | exact Or.inr rfl) (pe_callS (ok__law_joins T) (hr.mono (by decide)) rfl T.g__law_joins T.k__law_joins T.b__law_joins (fun σ => passAt tk σ) (pa_cons (pv 0) (pa_cons (pv 1) pa_nil))))
      (pss_one (ps_if (pt_cmpR op_gt (pe_callB call_len_seq (by rfl) T.z_len (by decide +kernel) (pa_cons (pv 7) pa_nil)) pe_int (nomark _))
        (pss_one (ps_expr (pe_bm PySem.F.plainAttrs_list PySem.F.slot_list_append PySem.F.type_list_append mt_append (pv 4) (pa_cons (pe_tup (pa_cons (pv 6) (pa_cons (pv 7) pa_nil))) pa_nil))))
        pss_nil)))))
      (pss_one (ps_ret (pe_callTy call_tuple_of (by rfl) T.z_tuple (by decide +kernel) (pa_cons (pv 4) pa_nil)))))),
    (ds_seq (ds_lstOwn (i := 4) da_nil)
      (ds_seq (ds_for (wI := (wRng1 (wCons (wVar 2) wNil))) (wg := (wName 5)) (wb := (wSq (wAsg (wCall 3 (fs__law_steps K) (wcOwn 0 (wcCons (wC (.int 6)) (wcCons (wVar 3) wcNil)))) (wName 6))
  (wSq (wAsg (wCall 2 (fs__law_joins K) (wcOwn 0 (wcCons (wVar 1) wcNil))) (wName 7))
  (wIfS (wB (wOp gGtI (wCB gLen (wCons (wVar 7) wNil)) (wC (.int 0)))) (wAppend 4 (wCons (wTup (wCons (wVar 6) (wCons (wVar 7) wNil))) wNil)) wNext)))) (di_rng1 (da_cons (de_var 2) da_nil)) (dg_name 5) (ds_seq (ds_asg (de_call (n := 3) (fs := fs__law_steps K) (dac_own (j := 0) (dac_cons de_int (dac_cons (de_var 3) dac_nil)))) (dg_name 6))
      (ds_seq (ds_asg (de_call (n := 2) (fs := fs__law_joins K) (dac_own (j := 0) (dac_cons (de_var 1) dac_nil))) (dg_name 7))
      (ds_if (dt_B (de_op o_gt (de_cb o_len (da_cons (de_var 7) da_nil)) de_int)) (ds_append (i := 4) (da_cons (de_tup (da_cons (de_var 6) (da_cons (de_var 7) da_nil))) da_nil)) ds_nil))))
      (ds_ret (de_peek (i := 4) p_tupleOf))))⟩
abbrev s__law_woven : Stmt := topS 62
theorem sc__law_woven : FnScope ["source", "sorts", "kinds", "vessels", "many", "chosen", "k", "pipes", "kind", "join", "ones", "v", "others", "one", "other", "sort"] ["source", "sorts", "kinds", "vessels", "many"] (defScope s__law_woven) := ⟨rfl, rfl, rfl, by decide +kernel, rfl, by decide +kernel, by decide +kernel⟩
def c1__law_woven (K : PySem.W.Frag) : EW := wLc (wRng1 (wCons (wVar 3) wNil)) (wName 6) wYes (wCall 2 (fs__law_draw K) (wcOwn 0 (wcCons (wCB gLen (wCons (wVar 1) wNil)) wcNil))) [6]
def c2__law_woven (K : PySem.W.Frag) : EW := wLc (wRng1 (wCons (wVar 3) wNil)) (wName 11) (wB (wOp gEq (wOp gIx (wVar 5) (wVar 11)) (wOp gIx (wVar 9) (wC (.int 0))))) (wVar 11) [11]
def c3__law_woven (K : PySem.W.Frag) : EW := wLc (wRng1 (wCons (wVar 3) wNil)) (wName 11) (wB (wOp gEq (wOp gIx (wVar 5) (wVar 11)) (wOp gIx (wVar 9) (wC (.int 1))))) (wVar 11) [11]
def l4__law_woven (K : PySem.W.Frag) : SW := wFor (wRng1 (wCons (wVar 4) wNil)) (wName 6) (wIfS (wB (wOp gGtI (wCB gLen (wCons (wVar 2) wNil)) (wC (.int 0)))) (wSq (wAsg (wCall 2 (fs__law_pick K) (wcOwn 0 (wcCons (wVar 2) wcNil))) (wName 8))
  (wSq (wAsg (wCall 2 (fs__law_pick K) (wcOwn 0 (wcCons (wOp gIx (wVar 8) (wC (.int 1))) wcNil))) (wName 9))
  (wSq (wAsg (c2__law_woven K) (wName 10))
  (wSq (wAsg (c3__law_woven K) (wName 12))
  (wIfS (wAnd (wB (wOp gGtI (wCB gLen (wCons (wVar 10) wNil)) (wC (.int 0)))) (wB (wOp gGtI (wCB gLen (wCons (wVar 12) wNil)) (wC (.int 0))))) (wSq (wPar 13 14 (wCons (wCall 2 (fs__law_pick K) (wcOwn 0 (wcCons (wVar 10) wcNil))) (wCons (wCall 2 (fs__law_pick K) (wcOwn 0 (wcCons (wVar 12) wcNil))) wNil)))
  (wIfS (wB (wOp gNe (wVar 13) (wVar 14))) (wAppend 7 (wCons (wTup (wCons (wCB gMin2 (wCons (wVar 13) (wCons (wVar 14) wNil))) (wCons (wCB gMax2 (wCons (wVar 13) (wCons (wVar 14) wNil))) (wCons (wOp gIx (wVar 8) (wC (.int 0))) wNil)))) wNil)) wNext)) wNext))))) wNext)
def c5__law_woven (K : PySem.W.Frag) : EW := wLc (wSeq (wVar 5)) (wName 15) wYes (wOp gIx (wOp gIx (wVar 1) (wVar 15)) (wC (.int 0))) [15]
def w__law_woven (K : PySem.W.Frag) : SW := (wSq (wAsg (c1__law_woven K) (wName 5))
  (wSq (wLstOwn 7 wNil)
  (wSq (l4__law_woven K)
  (wRet (wTup (wCons (wCB gTupleOf (wCons (c5__law_woven K) wNil)) (wCons (wPeek 7 (fun es q => q (.tup es))) (wCons (wCB gTupleOf (wCons (wVar 5) wNil)) wNil))))))))
/-- what is woven of sorts and kinds -/
def WovD (ss us ds so : List D) : Prop := WebV us ds ∧ SoV us.length ss.length so
theorem kindD_get {ss : List D} {d : D} (h : isKi ss d = true) : ∃ (l : D) (js : List D), d = .tup [l, .tup js] ∧ isLi l = true ∧ 1 ≤ js.length ∧ ∀ j ∈ js, ∃ a b : Int, j = .tup [.int a, .int b] := by
  obtain ⟨l, js, rfl, _, _⟩ := ki_shape h
  simp only [isKi, Bool.and_eq_true] at h
  refine ⟨l, js, rfl, h.1.1, ?_, fun j hj => ?_⟩
  · cases js with
    | nil => simp at h
    | cons _ _ => simp
  · obtain ⟨a, b, e, _⟩ := jo_pair (List.all_eq_true.mp h.2.1 j hj)
    exact ⟨a, b, e⟩
/-- numbers of vessels -/
def NumV (n : Nat) (d : D) : Prop := ∃ i : Int, d = .int i ∧ 0 ≤ i ∧ i < n
def fs__law_woven (K : PySem.W.Frag) : FS := fun cs q _ => ∃ (p : Addr) (c : Cont) (ss ks : List D) (v m : Int), cs = [.own p c, .dat (.tup ss), .dat (.tup ks), .dat (.int v), .dat (.int m)] ∧ SrcC c ∧ BookV ss ks ∧ (∀ d ∈ ks, JsShort d) ∧ 1 ≤ v ∧ v ≤ 8 ∧ 0 ≤ m ∧ m ≤ 36 ∧
  ∀ (c' : Cont) (us ds so : List D), SrcC c' → us.length = v.toNat → WovD ss us ds so → q (.tup [.tup us, .tup ds, .tup so]) [.own p c', .dat (.tup ss), .dat (.tup ks), .dat (.int v), .dat (.int m)]
theorem c1__law_woven_ok {p : Addr} {c : Cont} {ss : List D} {c2 c5 c6 c7 c8 c9 c10 c11 c12 c13 c14 c15 : Cell} {v : Int} {c4 : Cell} {q : D → List Cell → Prop} {e : Xn → List Cell → Prop} (hc : SrcC c) (s1 : 1 ≤ ss.length) (s4 : ss.length ≤ 4) (v0 : 0 ≤ v) (v8 : v ≤ 8)
    (hq : ∀ (c' : Cont) (so : List D), SrcC c' → so.length = v.toNat → (∀ d ∈ so, isBetw 0 ((ss.length : Int) - 1) d = true) → q (.lst so) [.own p c', .dat (.tup ss), c2, .dat (.int v), c4, c5, .any, c7, c8, c9, c10, c11, c12, c13, c14, c15]) :
    c1__law_woven K [.own p c, .dat (.tup ss), c2, .dat (.int v), c4, c5, c6, c7, c8, c9, c10, c11, c12, c13, c14, c15] q e := by
  unfold c1__law_woven wLc
  refine ⟨_, rfl, v, rfl, by omega, by omega, by rw [rangeD_length]; omega, fun i acc τ => ∃ c', τ = [.own p c', .dat (.tup ss), c2, .dat (.int v), c4, c5, .any, c7, c8, c9, c10, c11, c12, c13, c14, c15] ∧ SrcC c' ∧ acc.length = i ∧ ∀ d ∈ acc, isBetw 0 ((ss.length : Int) - 1) d = true, ⟨c, rfl, hc, rfl, fun d h => by simp at h⟩, ?_, ?_⟩
  · rintro i d acc τ2 hi ⟨c', rfl, hc', hl, ha⟩ _
    simp only [fs__law_draw, seqD_t, wAugOwn, wEnumL, wTru, wSlA, gCatA, gLtT, gLeT, wFrz, wChain3, wAttr, wMkF, wEnumT, wRevT, wDict0, wDict1, numD3, Nat.reduceAdd, atI0, atI1, atI2, atI3, atI4, ixN51, ixN52, ixN53, List.length_map, wNever, scal, V.int.injEq, V.str.injEq, V.bl.injEq, wSq, wNext, wBreak, wCont, wDrop, wRet, wRetN, wIfS, wAsg, wPar, wLstOwn, wAppend, wSetOwn, wIxOwn, wPeek, wRetOwn, wRetFr, wFor, wB, wNot, wAnd, wOr, wAndV, wOrV, wNotV, wIf, wChain, wNil, wCons, wCB, wTup, wLst, wNoPart, wPart, wSlT, wSlL, wSeq, wRng1, wRng2, wZip, wName, wNilT, wConsT, wTupT, wYes, wNeg, wVar, wC, wOp, wcNil, wcCons, wcOwn, wCall, wCallOwn, slots, cellsOf, OwnArgs, putBack, g2I, g2IC, gLen, gAbs, gGcd, gInt1, gTupleOf, gListOf, gIx, gCatT, gCat, gEq, gNe, gIsN, gNotN, scD, seqD_t, seqD_l, seqD_f, isNonD, List.nodup_cons, List.mem_cons, List.not_mem_nil, or_false, not_false_eq_true, Nat.reduceEqDiff, L3.Keeps, ends, wipeD, List.replicate, List.cons_append, List.nil_append, List.append_nil, List.getElem?_cons_zero, List.getElem?_cons_succ, List.set_cons_zero, List.set_cons_succ, List.getD_cons_zero, List.getD_cons_succ, List.length_cons, List.length_nil, List.nodup_nil, Option.some.injEq, Cell.dat.injEq, Cell.own.injEq, Cont.lst.injEq, D.bl.injEq, D.int.injEq, D.str.injEq, D.tup.injEq, D.lst.injEq, Arg.d.injEq, List.cons.injEq, exists_and_left, exists_and_right, exists_eq_left', exists_eq_left, exists_eq_right, exists_eq_right', exists_eq, exists_eq', and_true, true_and, and_assoc, and_self, exists_const, reduceCtorEq]
    simp only [true_implies]
    refine ⟨⟨hc', by omega, by omega, fun c2 n hc2 n0 n1 => ⟨hc2, by rw [List.length_append, hl]; rfl, all_snoc ha ?_⟩⟩, fun z => nomatch z⟩
    simp only [isBetw, Bool.and_eq_true, decide_eq_true_eq]
    omega
  · rintro acc τ2 ⟨c', e, hc', hl, ha⟩ _
    rw [e]
    rw [rangeD_length] at hl
    exact hq c' acc hc' hl ha
theorem c2__law_woven_ok {so : List D} {a b : Int} {c0 c1 c2 c4 c6 c7 c8 c10 c11 c12 c13 c14 c15 : Cell} {v : Int} {q : D → List Cell → Prop} {e : Xn → List Cell → Prop} (hl : so.length = v.toNat) (hs : ∃ m : Int, ∀ d ∈ so, isBetw 0 m d = true) (v0 : 0 ≤ v) (v8 : v ≤ 8)
    (hq : ∀ xs : List D, xs.length ≤ 8 → (∀ d ∈ xs, NumV v.toNat d) → q (.lst xs) [c0, c1, c2, .dat (.int v), c4, .dat (.lst so), c6, c7, c8, .dat (.tup [.int a, .int b]), c10, .any, c12, c13, c14, c15]) :
    c2__law_woven K [c0, c1, c2, .dat (.int v), c4, .dat (.lst so), c6, c7, c8, .dat (.tup [.int a, .int b]), c10, c11, c12, c13, c14, c15] q e := by
  obtain ⟨mm, hs⟩ := hs
  unfold c2__law_woven wLc
  refine ⟨_, rfl, v, rfl, by omega, by omega, lc_fm id (fun d => match d with | .int i => decide (iAt so i.toNat = a) | _ => false) (by rw [rangeD_length]; omega) (fun d hm k1 k2 h1 h2 => ?_) ?_⟩
  · obtain ⟨i, hi, rfl⟩ := List.mem_map.mp (show d ∈ (List.range v.toNat).map fun i => D.int (0 + (i : Nat)) from hm)
    have hi := List.mem_range.mp hi
    have z0 : (0 : Int) + (i : Nat) = ((i : Nat) : Int) := by omega
    rw [z0] at h1 h2 ⊢
    obtain ⟨e1, _⟩ := betw_at (k := i) hs (by omega)
    have e2 : atI so ((i : Nat) : Int) = some (.int (iAt so i)) := atI_nat' e1
    simp only [Int.toNat_natCast] at h1 h2
    simp only [seqD_l, e2, wAugOwn, wEnumL, wTru, wSlA, gCatA, gLtT, gLeT, wFrz, wChain3, wAttr, wMkF, wEnumT, wRevT, wDict0, wDict1, numD3, Nat.reduceAdd, atI0, atI1, atI2, atI3, atI4, ixN51, ixN52, ixN53, List.length_map, wNever, scal, V.int.injEq, V.str.injEq, V.bl.injEq, wSq, wNext, wBreak, wCont, wDrop, wRet, wRetN, wIfS, wAsg, wPar, wLstOwn, wAppend, wSetOwn, wIxOwn, wPeek, wRetOwn, wRetFr, wFor, wB, wNot, wAnd, wOr, wAndV, wOrV, wNotV, wIf, wChain, wNil, wCons, wCB, wTup, wLst, wNoPart, wPart, wSlT, wSlL, wSeq, wRng1, wRng2, wZip, wName, wNilT, wConsT, wTupT, wYes, wNeg, wVar, wC, wOp, wcNil, wcCons, wcOwn, wCall, wCallOwn, slots, cellsOf, OwnArgs, putBack, g2I, g2IC, gLen, gAbs, gGcd, gInt1, gTupleOf, gListOf, gIx, gCatT, gCat, gEq, gNe, gIsN, gNotN, scD, seqD_t, seqD_l, seqD_f, isNonD, List.nodup_cons, List.mem_cons, List.not_mem_nil, or_false, not_false_eq_true, Nat.reduceEqDiff, L3.Keeps, ends, wipeD, List.replicate, List.cons_append, List.nil_append, List.append_nil, List.getElem?_cons_zero, List.getElem?_cons_succ, List.set_cons_zero, List.set_cons_succ, List.getD_cons_zero, List.getD_cons_succ, List.length_cons, List.length_nil, List.nodup_nil, Option.some.injEq, Cell.dat.injEq, Cell.own.injEq, Cont.lst.injEq, D.bl.injEq, D.int.injEq, D.str.injEq, D.tup.injEq, D.lst.injEq, Arg.d.injEq, List.cons.injEq, exists_and_left, exists_and_right, exists_eq_left', exists_eq_left, exists_eq_right, exists_eq_right', exists_eq, exists_eq', and_true, true_and, and_assoc, and_self, exists_const, reduceCtorEq]
    exact ⟨fun z => h1 z _ rfl, fun z => h2 z _ rfl⟩
  · rw [List.map_id]
    refine hq _ ?_ fun d hd => ?_
    · have := List.length_filter_le (fun d => match d with | .int i => decide (iAt so i.toNat = a) | _ => false) (rangeD 0 v.toNat)
      rw [rangeD_length] at this
      omega
    · obtain ⟨i, hi, rfl⟩ := List.mem_map.mp (show d ∈ (List.range v.toNat).map fun i => D.int (0 + (i : Nat)) from (List.mem_filter.mp hd).1)
      have hi := List.mem_range.mp hi
      exact ⟨_, rfl, by omega, by omega⟩
theorem c3__law_woven_ok {so : List D} {a b : Int} {c0 c1 c2 c4 c6 c7 c8 c10 c11 c12 c13 c14 c15 : Cell} {v : Int} {q : D → List Cell → Prop} {e : Xn → List Cell → Prop} (hl : so.length = v.toNat) (hs : ∃ m : Int, ∀ d ∈ so, isBetw 0 m d = true) (v0 : 0 ≤ v) (v8 : v ≤ 8)
    (hq : ∀ xs : List D, xs.length ≤ 8 → (∀ d ∈ xs, NumV v.toNat d) → q (.lst xs) [c0, c1, c2, .dat (.int v), c4, .dat (.lst so), c6, c7, c8, .dat (.tup [.int a, .int b]), c10, .any, c12, c13, c14, c15]) :
    c3__law_woven K [c0, c1, c2, .dat (.int v), c4, .dat (.lst so), c6, c7, c8, .dat (.tup [.int a, .int b]), c10, c11, c12, c13, c14, c15] q e := by
  obtain ⟨mm, hs⟩ := hs
  unfold c3__law_woven wLc
  refine ⟨_, rfl, v, rfl, by omega, by omega, lc_fm id (fun d => match d with | .int i => decide (iAt so i.toNat = b) | _ => false) (by rw [rangeD_length]; omega) (fun d hm k1 k2 h1 h2 => ?_) ?_⟩
  · obtain ⟨i, hi, rfl⟩ := List.mem_map.mp (show d ∈ (List.range v.toNat).map fun i => D.int (0 + (i : Nat)) from hm)
    have hi := List.mem_range.mp hi
    have z0 : (0 : Int) + (i : Nat) = ((i : Nat) : Int) := by omega
    rw [z0] at h1 h2 ⊢
    obtain ⟨e1, _⟩ := betw_at (k := i) hs (by omega)
    have e2 : atI so ((i : Nat) : Int) = some (.int (iAt so i)) := atI_nat' e1
    simp only [Int.toNat_natCast] at h1 h2
    simp only [seqD_l, e2, wAugOwn, wEnumL, wTru, wSlA, gCatA, gLtT, gLeT, wFrz, wChain3, wAttr, wMkF, wEnumT, wRevT, wDict0, wDict1, numD3, Nat.reduceAdd, atI0, atI1, atI2, atI3, atI4, ixN51, ixN52, ixN53, List.length_map, wNever, scal, V.int.injEq, V.str.injEq, V.bl.injEq, wSq, wNext, wBreak, wCont, wDrop, wRet, wRetN, wIfS, wAsg, wPar, wLstOwn, wAppend, wSetOwn, wIxOwn, wPeek, wRetOwn, wRetFr, wFor, wB, wNot, wAnd, wOr, wAndV, wOrV, wNotV, wIf, wChain, wNil, wCons, wCB, wTup, wLst, wNoPart, wPart, wSlT, wSlL, wSeq, wRng1, wRng2, wZip, wName, wNilT, wConsT, wTupT, wYes, wNeg, wVar, wC, wOp, wcNil, wcCons, wcOwn, wCall, wCallOwn, slots, cellsOf, OwnArgs, putBack, g2I, g2IC, gLen, gAbs, gGcd, gInt1, gTupleOf, gListOf, gIx, gCatT, gCat, gEq, gNe, gIsN, gNotN, scD, seqD_t, seqD_l, seqD_f, isNonD, List.nodup_cons, List.mem_cons, List.not_mem_nil, or_false, not_false_eq_true, Nat.reduceEqDiff, L3.Keeps, ends, wipeD, List.replicate, List.cons_append, List.nil_append, List.append_nil, List.getElem?_cons_zero, List.getElem?_cons_succ, List.set_cons_zero, List.set_cons_succ, List.getD_cons_zero, List.getD_cons_succ, List.length_cons, List.length_nil, List.nodup_nil, Option.some.injEq, Cell.dat.injEq, Cell.own.injEq, Cont.lst.injEq, D.bl.injEq, D.int.injEq, D.str.injEq, D.tup.injEq, D.lst.injEq, Arg.d.injEq, List.cons.injEq, exists_and_left, exists_and_right, exists_eq_left', exists_eq_left, exists_eq_right, exists_eq_right', exists_eq, exists_eq', and_true, true_and, and_assoc, and_self, exists_const, reduceCtorEq]
    exact ⟨fun z => h1 z _ rfl, fun z => h2 z _ rfl⟩
  · rw [List.map_id]
    refine hq _ ?_ fun d hd => ?_
    · have := List.length_filter_le (fun d => match d with | .int i => decide (iAt so i.toNat = b) | _ => false) (rangeD 0 v.toNat)
      rw [rangeD_length] at this
      omega
    · obtain ⟨i, hi, rfl⟩ := List.mem_map.mp (show d ∈ (List.range v.toNat).map fun i => D.int (0 + (i : Nat)) from (List.mem_filter.mp hd).1)
      have hi := List.mem_range.mp hi
      exact ⟨_, rfl, by omega, by omega⟩
def wOf (ss : List D) : D → D | .int s => .int (wAt ss s) | _ => .non
theorem c5__law_woven_ok {ss so : List D} {c0 c2 c3 c4 c6 c7 c8 c9 c10 c11 c12 c13 c14 c15 : Cell} {q : D → List Cell → Prop} {e : Xn → List Cell → Prop} (hss : ∀ d ∈ ss, isSo d = true) (hl : so.length ≤ 8) (hs : ∀ d ∈ so, isBetw 0 ((ss.length : Int) - 1) d = true)
    (hq : q (.lst (so.map (wOf ss))) [c0, .dat (.tup ss), c2, c3, c4, .dat (.lst so), c6, c7, c8, c9, c10, c11, c12, c13, c14, .any]) :
    c5__law_woven K [c0, .dat (.tup ss), c2, c3, c4, .dat (.lst so), c6, c7, c8, c9, c10, c11, c12, c13, c14, c15] q e := by
  unfold c5__law_woven wLc
  refine ⟨_, rfl, so, rfl, lc_fm (wOf ss) (fun _ => true) (by omega) (fun d hm k1 k2 h1 _ => ?_) (by rw [filter_true]; exact hq)⟩
  obtain ⟨s, rfl, s0, s1⟩ := betw_int (hs d hm)
  have g := so_get hss s0 (by omega)
  simp only [seqD_t, g, wAugOwn, wEnumL, wTru, wSlA, gCatA, gLtT, gLeT, wFrz, wChain3, wAttr, wMkF, wEnumT, wRevT, wDict0, wDict1, numD3, Nat.reduceAdd, atI0, atI1, atI2, atI3, atI4, ixN51, ixN52, ixN53, List.length_map, wNever, scal, V.int.injEq, V.str.injEq, V.bl.injEq, wSq, wNext, wBreak, wCont, wDrop, wRet, wRetN, wIfS, wAsg, wPar, wLstOwn, wAppend, wSetOwn, wIxOwn, wPeek, wRetOwn, wRetFr, wFor, wB, wNot, wAnd, wOr, wAndV, wOrV, wNotV, wIf, wChain, wNil, wCons, wCB, wTup, wLst, wNoPart, wPart, wSlT, wSlL, wSeq, wRng1, wRng2, wZip, wName, wNilT, wConsT, wTupT, wYes, wNeg, wVar, wC, wOp, wcNil, wcCons, wcOwn, wCall, wCallOwn, slots, cellsOf, OwnArgs, putBack, g2I, g2IC, gLen, gAbs, gGcd, gInt1, gTupleOf, gListOf, gIx, gCatT, gCat, gEq, gNe, gIsN, gNotN, scD, seqD_t, seqD_l, seqD_f, isNonD, List.nodup_cons, List.mem_cons, List.not_mem_nil, or_false, not_false_eq_true, Nat.reduceEqDiff, L3.Keeps, ends, wipeD, List.replicate, List.cons_append, List.nil_append, List.append_nil, List.getElem?_cons_zero, List.getElem?_cons_succ, List.set_cons_zero, List.set_cons_succ, List.getD_cons_zero, List.getD_cons_succ, List.length_cons, List.length_nil, List.nodup_nil, Option.some.injEq, Cell.dat.injEq, Cell.own.injEq, Cont.lst.injEq, D.bl.injEq, D.int.injEq, D.str.injEq, D.tup.injEq, D.lst.injEq, Arg.d.injEq, List.cons.injEq, exists_and_left, exists_and_right, exists_eq_left', exists_eq_left, exists_eq_right, exists_eq_right', exists_eq, exists_eq', and_true, true_and, and_assoc, and_self, exists_const, reduceCtorEq]
  simp only [true_implies]
  exact ⟨h1 rfl _ rfl, fun z => z.elim⟩
def InvWv (p0 p : Addr) (ss ks so : List D) (v m : Int) (i : Nat) (τ : List Cell) : Prop := ∃ (c : Cont) (es : List D) (c6 c8 c9 c10 c11 c12 c13 c14 c15 : Cell), τ = [.own p0 c, .dat (.tup ss), .dat (.tup ks), .dat (.int v), .dat (.int m), .dat (.lst so), c6, .own p (.lst es), c8, c9, c10, c11, c12, c13, c14, c15] ∧ SrcC c ∧ es.length ≤ i ∧ ∀ d ∈ es, isPi (v.toNat : Nat) d = true
theorem pi_mk {n : Nat} {a b : Int} {l : D} (a0 : 0 ≤ a) (an : a < n) (b0 : 0 ≤ b) (bn : b < n) (h : a ≠ b) (hl : isLi l = true) : isPi (n : Nat) (.tup [.int (mnI a b), .int (mxI a b), l]) = true := by
  unfold mnI mxI
  simp only [isPi, isBetw, hl, Bool.and_eq_true, decide_eq_true_eq, and_true]
  split <;> split <;> omega
theorem pure__law_woven : PureD 5 11 (fs__law_woven K) (w__law_woven K) := by
  rintro cs q e - ⟨p0, c, ss, ks, v, m, rfl, hc, hb, hj, v1, v8, m0, m36, hq⟩
  obtain ⟨⟨s1, s4, hss, _⟩, k5, hk⟩ := id hb
  simp only [w__law_woven, wSq, wAsg, wName]
  refine c1__law_woven_ok hc s1 s4 (by omega) v8 fun c1 so hc1 hl hs => ?_
  simp only [wLstOwn, wNil, List.set_cons_zero, List.set_cons_succ]
  refine ⟨by decide, fun p => ?_⟩
  unfold l4__law_woven wFor
  refine ⟨_, rfl, m, rfl, by omega, by omega, InvWv p0 p ss ks so v m, ⟨c1, [], _, _, _, _, _, _, _, _, _, rfl, hc1, by simp, fun d h => by simp at h⟩, ?_, ?_⟩
  · rintro i d τ2 hi ⟨c, es, c6, c8, c9, c10, c11, c12, c13, c14, c15, rfl, hc, he, hp⟩
    have hlt : i < 36 := by
      have := (List.getElem?_eq_some_iff.mp hi).1
      rw [rangeD_length] at this
      omega
    have stay : ∀ (c' : Cont) (x6 x8 x9 x10 x11 x12 x13 x14 x15 : Cell), SrcC c' → InvWv p0 p ss ks so v m (i + 1) [.own p0 c', .dat (.tup ss), .dat (.tup ks), .dat (.int v), .dat (.int m), .dat (.lst so), x6, .own p (.lst es), x8, x9, x10, x11, x12, x13, x14, x15] := fun c' x6 x8 x9 x10 x11 x12 x13 x14 x15 hc' => ⟨c', es, _, _, _, _, _, _, _, _, _, rfl, hc', by omega, hp⟩
    simp only [fs__law_pick, seqD_t, wAugOwn, wEnumL, wTru, wSlA, gCatA, gLtT, gLeT, wFrz, wChain3, wAttr, wMkF, wEnumT, wRevT, wDict0, wDict1, numD3, Nat.reduceAdd, atI0, atI1, atI2, atI3, atI4, ixN51, ixN52, ixN53, List.length_map, wNever, scal, V.int.injEq, V.str.injEq, V.bl.injEq, wSq, wNext, wBreak, wCont, wDrop, wRet, wRetN, wIfS, wAsg, wPar, wLstOwn, wAppend, wSetOwn, wIxOwn, wPeek, wRetOwn, wRetFr, wFor, wB, wNot, wAnd, wOr, wAndV, wOrV, wNotV, wIf, wChain, wNil, wCons, wCB, wTup, wLst, wNoPart, wPart, wSlT, wSlL, wSeq, wRng1, wRng2, wZip, wName, wNilT, wConsT, wTupT, wYes, wNeg, wVar, wC, wOp, wcNil, wcCons, wcOwn, wCall, wCallOwn, slots, cellsOf, OwnArgs, putBack, g2I, g2IC, gLen, gAbs, gGcd, gInt1, gTupleOf, gListOf, gIx, gCatT, gCat, gEq, gNe, gIsN, gNotN, scD, seqD_t, seqD_l, seqD_f, isNonD, List.nodup_cons, List.mem_cons, List.not_mem_nil, or_false, not_false_eq_true, Nat.reduceEqDiff, L3.Keeps, ends, wipeD, List.replicate, List.cons_append, List.nil_append, List.append_nil, List.getElem?_cons_zero, List.getElem?_cons_succ, List.set_cons_zero, List.set_cons_succ, List.getD_cons_zero, List.getD_cons_succ, List.length_cons, List.length_nil, List.nodup_nil, Option.some.injEq, Cell.dat.injEq, Cell.own.injEq, Cont.lst.injEq, D.bl.injEq, D.int.injEq, D.str.injEq, D.tup.injEq, D.lst.injEq, Arg.d.injEq, List.cons.injEq, exists_and_left, exists_and_right, exists_eq_left', exists_eq_left, exists_eq_right, exists_eq_right', exists_eq, exists_eq', and_true, true_and, and_assoc, and_self, exists_const, reduceCtorEq]
    refine ⟨fun z => ⟨hc, by have := of_decide_eq_true z; omega, by omega, fun c2 x hc2 hx => ?_⟩, fun _ => stay _ _ _ _ _ _ _ _ _ _ hc⟩
    obtain ⟨l, js, rfl, hli, j1, hjs⟩ := kindD_get (hk x hx)
    have j9 : js.length ≤ 900 := hj _ hx
    simp only [seqD_t, wAugOwn, wEnumL, wTru, wSlA, gCatA, gLtT, gLeT, wFrz, wChain3, wAttr, wMkF, wEnumT, wRevT, wDict0, wDict1, numD3, Nat.reduceAdd, atI0, atI1, atI2, atI3, atI4, ixN51, ixN52, ixN53, List.length_map, wNever, scal, V.int.injEq, V.str.injEq, V.bl.injEq, wSq, wNext, wBreak, wCont, wDrop, wRet, wRetN, wIfS, wAsg, wPar, wLstOwn, wAppend, wSetOwn, wIxOwn, wPeek, wRetOwn, wRetFr, wFor, wB, wNot, wAnd, wOr, wAndV, wOrV, wNotV, wIf, wChain, wNil, wCons, wCB, wTup, wLst, wNoPart, wPart, wSlT, wSlL, wSeq, wRng1, wRng2, wZip, wName, wNilT, wConsT, wTupT, wYes, wNeg, wVar, wC, wOp, wcNil, wcCons, wcOwn, wCall, wCallOwn, slots, cellsOf, OwnArgs, putBack, g2I, g2IC, gLen, gAbs, gGcd, gInt1, gTupleOf, gListOf, gIx, gCatT, gCat, gEq, gNe, gIsN, gNotN, scD, seqD_t, seqD_l, seqD_f, isNonD, List.nodup_cons, List.mem_cons, List.not_mem_nil, or_false, not_false_eq_true, Nat.reduceEqDiff, L3.Keeps, ends, wipeD, List.replicate, List.cons_append, List.nil_append, List.append_nil, List.getElem?_cons_zero, List.getElem?_cons_succ, List.set_cons_zero, List.set_cons_succ, List.getD_cons_zero, List.getD_cons_succ, List.length_cons, List.length_nil, List.nodup_nil, Option.some.injEq, Cell.dat.injEq, Cell.own.injEq, Cont.lst.injEq, D.bl.injEq, D.int.injEq, D.str.injEq, D.tup.injEq, D.lst.injEq, Arg.d.injEq, List.cons.injEq, exists_and_left, exists_and_right, exists_eq_left', exists_eq_left, exists_eq_right, exists_eq_right', exists_eq, exists_eq', and_true, true_and, and_assoc, and_self, exists_const, reduceCtorEq]
    refine ⟨hc2, by omega, by omega, fun c3 j hc3 hj' => ?_⟩
    obtain ⟨a, b, rfl⟩ := hjs j hj'
    refine c2__law_woven_ok hl ⟨_, hs⟩ (by omega) v8 fun xs lx hxs => ?_
    simp only [wAugOwn, wEnumL, wTru, wSlA, gCatA, gLtT, gLeT, wFrz, wChain3, wAttr, wMkF, wEnumT, wRevT, wDict0, wDict1, numD3, Nat.reduceAdd, atI0, atI1, atI2, atI3, atI4, ixN51, ixN52, ixN53, List.length_map, wNever, scal, V.int.injEq, V.str.injEq, V.bl.injEq, wSq, wNext, wBreak, wCont, wDrop, wRet, wRetN, wIfS, wAsg, wPar, wLstOwn, wAppend, wSetOwn, wIxOwn, wPeek, wRetOwn, wRetFr, wFor, wB, wNot, wAnd, wOr, wAndV, wOrV, wNotV, wIf, wChain, wNil, wCons, wCB, wTup, wLst, wNoPart, wPart, wSlT, wSlL, wSeq, wRng1, wRng2, wZip, wName, wNilT, wConsT, wTupT, wYes, wNeg, wVar, wC, wOp, wcNil, wcCons, wcOwn, wCall, wCallOwn, slots, cellsOf, OwnArgs, putBack, g2I, g2IC, gLen, gAbs, gGcd, gInt1, gTupleOf, gListOf, gIx, gCatT, gCat, gEq, gNe, gIsN, gNotN, scD, seqD_t, seqD_l, seqD_f, isNonD, List.nodup_cons, List.mem_cons, List.not_mem_nil, or_false, not_false_eq_true, Nat.reduceEqDiff, L3.Keeps, ends, wipeD, List.replicate, List.cons_append, List.nil_append, List.append_nil, List.getElem?_cons_zero, List.getElem?_cons_succ, List.set_cons_zero, List.set_cons_succ, List.getD_cons_zero, List.getD_cons_succ, List.length_cons, List.length_nil, List.nodup_nil, Option.some.injEq, Cell.dat.injEq, Cell.own.injEq, Cont.lst.injEq, D.bl.injEq, D.int.injEq, D.str.injEq, D.tup.injEq, D.lst.injEq, Arg.d.injEq, List.cons.injEq, exists_and_left, exists_and_right, exists_eq_left', exists_eq_left, exists_eq_right, exists_eq_right', exists_eq, exists_eq', and_true, true_and, and_assoc, and_self, exists_const, reduceCtorEq]
    refine c3__law_woven_ok hl ⟨_, hs⟩ (by omega) v8 fun ys ly hys => ?_
    simp only [fs__law_pick, seqD_l, wAugOwn, wEnumL, wTru, wSlA, gCatA, gLtT, gLeT, wFrz, wChain3, wAttr, wMkF, wEnumT, wRevT, wDict0, wDict1, numD3, Nat.reduceAdd, atI0, atI1, atI2, atI3, atI4, ixN51, ixN52, ixN53, List.length_map, wNever, scal, V.int.injEq, V.str.injEq, V.bl.injEq, wSq, wNext, wBreak, wCont, wDrop, wRet, wRetN, wIfS, wAsg, wPar, wLstOwn, wAppend, wSetOwn, wIxOwn, wPeek, wRetOwn, wRetFr, wFor, wB, wNot, wAnd, wOr, wAndV, wOrV, wNotV, wIf, wChain, wNil, wCons, wCB, wTup, wLst, wNoPart, wPart, wSlT, wSlL, wSeq, wRng1, wRng2, wZip, wName, wNilT, wConsT, wTupT, wYes, wNeg, wVar, wC, wOp, wcNil, wcCons, wcOwn, wCall, wCallOwn, slots, cellsOf, OwnArgs, putBack, g2I, g2IC, gLen, gAbs, gGcd, gInt1, gTupleOf, gListOf, gIx, gCatT, gCat, gEq, gNe, gIsN, gNotN, scD, seqD_t, seqD_l, seqD_f, isNonD, List.nodup_cons, List.mem_cons, List.not_mem_nil, or_false, not_false_eq_true, Nat.reduceEqDiff, L3.Keeps, ends, wipeD, List.replicate, List.cons_append, List.nil_append, List.append_nil, List.getElem?_cons_zero, List.getElem?_cons_succ, List.set_cons_zero, List.set_cons_succ, List.getD_cons_zero, List.getD_cons_succ, List.length_cons, List.length_nil, List.nodup_nil, Option.some.injEq, Cell.dat.injEq, Cell.own.injEq, Cont.lst.injEq, D.bl.injEq, D.int.injEq, D.str.injEq, D.tup.injEq, D.lst.injEq, Arg.d.injEq, List.cons.injEq, exists_and_left, exists_and_right, exists_eq_left', exists_eq_left, exists_eq_right, exists_eq_right', exists_eq, exists_eq', and_true, true_and, and_assoc, and_self, exists_const, reduceCtorEq]
    refine ⟨fun z1 => ⟨fun z2 => ⟨hc3, by have := of_decide_eq_true z1; omega, by omega, fun c4 x hc4 hx' => ⟨hc4, by have := of_decide_eq_true z2; omega, by omega, fun c5 y hc5 hy' => ?_⟩⟩, fun _ => stay _ _ _ _ _ _ _ _ _ _ hc3⟩, fun _ => ⟨fun z => z.elim, fun _ => stay _ _ _ _ _ _ _ _ _ _ hc3⟩⟩
    obtain ⟨i1, rfl, x0, x1⟩ := hxs x hx'
    obtain ⟨i2, rfl, y0, y1⟩ := hys y hy'
    refine ⟨_, rfl, _, rfl, rfl, fun z => ?_, fun _ => stay _ _ _ _ _ _ _ _ _ _ hc5⟩
    have ne : i1 ≠ i2 := fun h => by
      subst h
      simp at z
    refine ⟨_, _, rfl, _, _, rfl, by decide, by omega, c5, _, _, _, _, _, _, _, _, _, _, rfl, hc5, by rw [List.length_append]; simp only [List.length_cons, List.length_nil]; omega, all_snoc hp (pi_mk x0 x1 y0 y1 ne hli)⟩
  · rintro τ2 ⟨c, es, c6, c8, c9, c10, c11, c12, c13, c14, c15, rfl, hc, he, hp⟩
    rw [rangeD_length] at he
    simp only [wRet, wTup, wCons, wCB]
    refine c5__law_woven_ok hss (by omega) hs ?_
    simp only [seqD_l, wAugOwn, wEnumL, wTru, wSlA, gCatA, gLtT, gLeT, wFrz, wChain3, wAttr, wMkF, wEnumT, wRevT, wDict0, wDict1, numD3, Nat.reduceAdd, atI0, atI1, atI2, atI3, atI4, ixN51, ixN52, ixN53, List.length_map, wNever, scal, V.int.injEq, V.str.injEq, V.bl.injEq, wSq, wNext, wBreak, wCont, wDrop, wRet, wRetN, wIfS, wAsg, wPar, wLstOwn, wAppend, wSetOwn, wIxOwn, wPeek, wRetOwn, wRetFr, wFor, wB, wNot, wAnd, wOr, wAndV, wOrV, wNotV, wIf, wChain, wNil, wCons, wCB, wTup, wLst, wNoPart, wPart, wSlT, wSlL, wSeq, wRng1, wRng2, wZip, wName, wNilT, wConsT, wTupT, wYes, wNeg, wVar, wC, wOp, wcNil, wcCons, wcOwn, wCall, wCallOwn, slots, cellsOf, OwnArgs, putBack, g2I, g2IC, gLen, gAbs, gGcd, gInt1, gTupleOf, gListOf, gIx, gCatT, gCat, gEq, gNe, gIsN, gNotN, scD, seqD_t, seqD_l, seqD_f, isNonD, List.nodup_cons, List.mem_cons, List.not_mem_nil, or_false, not_false_eq_true, Nat.reduceEqDiff, L3.Keeps, ends, wipeD, List.replicate, List.cons_append, List.nil_append, List.append_nil, List.getElem?_cons_zero, List.getElem?_cons_succ, List.set_cons_zero, List.set_cons_succ, List.getD_cons_zero, List.getD_cons_succ, List.length_cons, List.length_nil, List.nodup_nil, Option.some.injEq, Cell.dat.injEq, Cell.own.injEq, Cont.lst.injEq, D.bl.injEq, D.int.injEq, D.str.injEq, D.tup.injEq, D.lst.injEq, Arg.d.injEq, List.cons.injEq, exists_and_left, exists_and_right, exists_eq_left', exists_eq_left, exists_eq_right, exists_eq_right', exists_eq, exists_eq', and_true, true_and, and_assoc, and_self, exists_const, reduceCtorEq]
    refine ⟨by decide, hq c (so.map (wOf ss)) es so hc (by rw [List.length_map]; exact hl) ⟨⟨⟨by rw [List.length_map]; omega, by rw [List.length_map]; omega, fun d hd => ?_⟩, by omega, ?_⟩, by rw [List.length_map], hs⟩⟩
    · obtain ⟨x, hx, rfl⟩ := List.mem_map.mp hd
      obtain ⟨s, rfl, s0, s1'⟩ := betw_int (hs x hx)
      obtain ⟨_, _, w0, w1⟩ := wAt_get hss s0 (by omega)
      simp only [wOf, isBetw, Bool.and_eq_true, decide_eq_true_eq]
      exact ⟨w0, w1⟩
    · rw [List.length_map, hl]
      exact hp
theorem ok__law_woven (T : Txt K mg) : FnOk P w K mg base (L2.CX P w) 4 T.f__law_woven T.fd__law_woven ["source", "sorts", "kinds", "vessels", "many"] (spOf K 5 (fs__law_woven K)) := by
  refine def_ok T.F__law_woven sc__law_woven (wb := w__law_woven K) pure__law_woven ?_
  intro cdv A outer s H E hr tk
  exact ⟨_, (pss_cons (ps_set (i := 5) sc__law_woven.nd rfl (by first | exact Or.inl rfl | exact Or.inr rfl) (pe_lc (own := [("k", 6)]) (g := (gName 6)) (tt := tYes) (te := (tCallS (spOf K 2 (fs__law_draw K)) (L2.WE W0) (tCons (tVar 0) (tCons (tCB (rLenS K) (tCons (tVar 1) tNil)) tNil)))) rfl sc__law_woven.nd (pi_range1 (by rfl) T.z_range (pa_cons (pv 3) pa_nil)) (blkOk_by (N := ["source", "sorts", "kinds", "vessels", "many", "chosen", "k", "pipes", "kind", "join", "ones", "v", "others", "one", "other", "sort"]) (sc := defScope s__law_woven) (by decide +kernel)) (fun _ _ _ _ _ => (pg_name (i := 6) sc__law_woven.nd rfl (by first | exact Or.inl rfl | exact Or.inr rfl))) (fun _ _ _ _ _ => pts_nil) (fun _ _ _ _ _ => (pe_callS (ok__law_draw T) (hr.mono (by decide)) rfl T.g__law_draw T.k__law_draw T.b__law_draw (fun σ => passAt L2.takes0 σ) (pa_cons (pv 0) (pa_cons (pe_callB call_len_seq (by rfl) T.z_len (by decide +kernel) (pa_cons (pv 1) pa_nil)) pa_nil))))))
      (pss_cons (ps_set (i := 7) sc__law_woven.nd rfl (by first | exact Or.inl rfl | exact Or.inr rfl) (pe_lst pa_nil))
      (pss_cons (ps_for (passes_of rfl) rfl (pi_range1 (by rfl) T.z_range (pa_cons (pv 4) pa_nil)) (pg_name (i := 6) sc__law_woven.nd rfl (by first | exact Or.inl rfl | exact Or.inr rfl))
        (pss_one (ps_if (pt_cmpR op_gt (pe_callB call_len_seq (by rfl) T.z_len (by decide +kernel) (pa_cons (pv 2) pa_nil)) pe_int (nomark _))
        (pss_cons (ps_set (i := 8) sc__law_woven.nd rfl (by first | exact Or.inl rfl | exact Or.inr rfl) (pe_callS (ok__law_pick T) (hr.mono (by decide)) rfl T.g__law_pick T.k__law_pick T.b__law_pick (fun σ => passAt tk σ) (pa_cons (pv 0) (pa_cons (pv 2) pa_nil))))
      (pss_cons (ps_set (i := 9) sc__law_woven.nd rfl (by first | exact Or.inl rfl | exact Or.inr rfl) (pe_callS (ok__law_pick T) (hr.mono (by decide)) rfl T.g__law_pick T.k__law_pick T.b__law_pick (fun σ => passAt tk σ) (pa_cons (pv 0) (pa_cons (pe_ix ix_seq (pv 8) pe_int (fun _ _ => rfl)) pa_nil))))
      (pss_cons (ps_setLc (i := 10) (own := [("v", 11)]) (g := (gName 11)) (tt := (tTest (tOp rEq (tOp (rIx K) (tVar 5) (tVar 11)) (tOp (rIx K) (tVar 9) (tC (.int 0)))))) (te := (tVar 11)) rfl sc__law_woven.nd rfl rfl (sw_true rfl rfl (by rfl) (by rfl)) (pi_range1 (by rfl) T.z_range (pa_cons (pv 3) pa_nil)) (blkOk_by (N := ["source", "sorts", "kinds", "vessels", "many", "chosen", "k", "pipes", "kind", "join", "ones", "v", "others", "one", "other", "sort"]) (sc := defScope s__law_woven) (by decide +kernel)) (fun _ _ _ _ _ => (pg_name (i := 11) sc__law_woven.nd rfl (by first | exact Or.inl rfl | exact Or.inr rfl))) (fun _ _ _ _ _ => (pts_one (pt_cmpR op_eq (pe_ix ix_seq (pv 5) (pv 11) (fun _ _ => rfl)) (pe_ix ix_seq (pv 9) pe_int (fun _ _ => rfl)) (nomark _)))) (fun _ _ _ _ _ => (pv 11)))
      (pss_cons (ps_setLc (i := 12) (own := [("v", 11)]) (g := (gName 11)) (tt := (tTest (tOp rEq (tOp (rIx K) (tVar 5) (tVar 11)) (tOp (rIx K) (tVar 9) (tC (.int 1)))))) (te := (tVar 11)) rfl sc__law_woven.nd rfl rfl (sw_true rfl rfl (by rfl) (by rfl)) (pi_range1 (by rfl) T.z_range (pa_cons (pv 3) pa_nil)) (blkOk_by (N := ["source", "sorts", "kinds", "vessels", "many", "chosen", "k", "pipes", "kind", "join", "ones", "v", "others", "one", "other", "sort"]) (sc := defScope s__law_woven) (by decide +kernel)) (fun _ _ _ _ _ => (pg_name (i := 11) sc__law_woven.nd rfl (by first | exact Or.inl rfl | exact Or.inr rfl))) (fun _ _ _ _ _ => (pts_one (pt_cmpR op_eq (pe_ix ix_seq (pv 5) (pv 11) (fun _ _ => rfl)) (pe_ix ix_seq (pv 9) pe_int (fun _ _ => rfl)) (nomark _)))) (fun _ _ _ _ _ => (pv 11)))
      (pss_one (ps_if (PW.pt (pw_and (pt_cmpR op_gt (pe_callB call_len_seq (by rfl) T.z_len (by decide +kernel) (pa_cons (pv 10) pa_nil)) pe_int (nomark _)) (pw_and1 (pt_cmpR op_gt (pe_callB call_len_seq (by rfl) T.z_len (by decide +kernel) (pa_cons (pv 12) pa_nil)) pe_int (nomark _)))))
        (pss_cons (ps_par (i := 13) (j := 14) (by rfl) sc__law_woven.nd rfl rfl (by decide) rfl rfl (pa_cons (pe_callS (ok__law_pick T) (hr.mono (by decide)) rfl T.g__law_pick T.k__law_pick T.b__law_pick (fun σ => passAt tk σ) (pa_cons (pv 0) (pa_cons (pv 10) pa_nil))) (pa_cons (pe_callS (ok__law_pick T) (hr.mono (by decide)) rfl T.g__law_pick T.k__law_pick T.b__law_pick (fun σ => passAt tk σ) (pa_cons (pv 0) (pa_cons (pv 12) pa_nil))) pa_nil)) (by rfl))
      (pss_one (ps_if (pt_cmpR op_ne (pv 13) (pv 14) (nomark _))
        (pss_one (ps_expr (pe_bm PySem.F.plainAttrs_list PySem.F.slot_list_append PySem.F.type_list_append mt_append (pv 7) (pa_cons (pe_tup (pa_cons (pe_callB (call_min2 rfl) (by rfl) T.z_min (by decide +kernel) (pa_cons (pv 13) (pa_cons (pv 14) pa_nil))) (pa_cons (pe_callB (call_max2 rfl) (by rfl) T.z_max (by decide +kernel) (pa_cons (pv 13) (pa_cons (pv 14) pa_nil))) (pa_cons (pe_ix ix_seq (pv 8) pe_int (fun _ _ => rfl)) pa_nil)))) pa_nil))))
        pss_nil)))
        pss_nil))))))
        pss_nil)))
      (pss_one (ps_ret (pe_tup (pa_cons (pe_callTy call_tuple_of (by rfl) T.z_tuple (by decide +kernel) (pa_cons (pe_lc (own := [("sort", 15)]) (g := (gName 15)) (tt := tYes) (te := (tOp (rIx K) (tOp (rIx K) (tVar 1) (tVar 15)) (tC (.int 0)))) rfl sc__law_woven.nd (pi_seq (pv 5)) (blkOk_by (N := ["source", "sorts", "kinds", "vessels", "many", "chosen", "k", "pipes", "kind", "join", "ones", "v", "others", "one", "other", "sort"]) (sc := defScope s__law_woven) (by decide +kernel)) (fun _ _ _ _ _ => (pg_name (i := 15) sc__law_woven.nd rfl (by first | exact Or.inl rfl | exact Or.inr rfl))) (fun _ _ _ _ _ => pts_nil) (fun _ _ _ _ _ => (pe_ix ix_seq (pe_ix ix_seq (pv 1) (pv 15) (fun _ _ => rfl)) pe_int (fun _ _ => rfl)))) pa_nil)) (pa_cons (pe_callTy call_tuple_of (by rfl) T.z_tuple (by decide +kernel) (pa_cons (pv 7) pa_nil)) (pa_cons (pe_callTy call_tuple_of (by rfl) T.z_tuple (by decide +kernel) (pa_cons (pv 5) pa_nil)) pa_nil))))))))),
    (ds_seq (ds_asg (de_lc (vs := [6]) (wI := (wRng1 (wCons (wVar 3) wNil))) (wg := (wName 6)) (wt := wYes) (we := (wCall 2 (fs__law_draw K) (wcOwn 0 (wcCons (wCB gLen (wCons (wVar 1) wNil)) wcNil)))) (di_rng1 (da_cons (de_var 3) da_nil)) (dg_name 6) dt_yes (de_call (n := 2) (fs := fs__law_draw K) (dac_own (j := 0) (dac_cons (de_cb o_len (da_cons (de_var 1) da_nil)) dac_nil))) (by decide)) (dg_name 5))
      (ds_seq (ds_lstOwn (i := 7) da_nil)
      (ds_seq (ds_for (wI := (wRng1 (wCons (wVar 4) wNil))) (wg := (wName 6)) (wb := (wIfS (wB (wOp gGtI (wCB gLen (wCons (wVar 2) wNil)) (wC (.int 0)))) (wSq (wAsg (wCall 2 (fs__law_pick K) (wcOwn 0 (wcCons (wVar 2) wcNil))) (wName 8))
  (wSq (wAsg (wCall 2 (fs__law_pick K) (wcOwn 0 (wcCons (wOp gIx (wVar 8) (wC (.int 1))) wcNil))) (wName 9))
  (wSq (wAsg (c2__law_woven K) (wName 10))
  (wSq (wAsg (c3__law_woven K) (wName 12))
  (wIfS (wAnd (wB (wOp gGtI (wCB gLen (wCons (wVar 10) wNil)) (wC (.int 0)))) (wB (wOp gGtI (wCB gLen (wCons (wVar 12) wNil)) (wC (.int 0))))) (wSq (wPar 13 14 (wCons (wCall 2 (fs__law_pick K) (wcOwn 0 (wcCons (wVar 10) wcNil))) (wCons (wCall 2 (fs__law_pick K) (wcOwn 0 (wcCons (wVar 12) wcNil))) wNil)))
  (wIfS (wB (wOp gNe (wVar 13) (wVar 14))) (wAppend 7 (wCons (wTup (wCons (wCB gMin2 (wCons (wVar 13) (wCons (wVar 14) wNil))) (wCons (wCB gMax2 (wCons (wVar 13) (wCons (wVar 14) wNil))) (wCons (wOp gIx (wVar 8) (wC (.int 0))) wNil)))) wNil)) wNext)) wNext))))) wNext)) (di_rng1 (da_cons (de_var 4) da_nil)) (dg_name 6) (ds_if (dt_B (de_op o_gt (de_cb o_len (da_cons (de_var 2) da_nil)) de_int)) (ds_seq (ds_asg (de_call (n := 2) (fs := fs__law_pick K) (dac_own (j := 0) (dac_cons (de_var 2) dac_nil))) (dg_name 8))
      (ds_seq (ds_asg (de_call (n := 2) (fs := fs__law_pick K) (dac_own (j := 0) (dac_cons (de_op o_ix (de_var 8) de_int) dac_nil))) (dg_name 9))
      (ds_seq (ds_asg (de_lc (vs := [11]) (wI := (wRng1 (wCons (wVar 3) wNil))) (wg := (wName 11)) (wt := (wB (wOp gEq (wOp gIx (wVar 5) (wVar 11)) (wOp gIx (wVar 9) (wC (.int 0)))))) (we := (wVar 11)) (di_rng1 (da_cons (de_var 3) da_nil)) (dg_name 11) (dt_B (de_op o_eq (de_op o_ix (de_var 5) (de_var 11)) (de_op o_ix (de_var 9) de_int))) (de_var 11) (by decide)) (dg_name 10))
      (ds_seq (ds_asg (de_lc (vs := [11]) (wI := (wRng1 (wCons (wVar 3) wNil))) (wg := (wName 11)) (wt := (wB (wOp gEq (wOp gIx (wVar 5) (wVar 11)) (wOp gIx (wVar 9) (wC (.int 1)))))) (we := (wVar 11)) (di_rng1 (da_cons (de_var 3) da_nil)) (dg_name 11) (dt_B (de_op o_eq (de_op o_ix (de_var 5) (de_var 11)) (de_op o_ix (de_var 9) de_int))) (de_var 11) (by decide)) (dg_name 12))
      (ds_if (dt_and (dt_B (de_op o_gt (de_cb o_len (da_cons (de_var 10) da_nil)) de_int)) (dt_B (de_op o_gt (de_cb o_len (da_cons (de_var 12) da_nil)) de_int))) (ds_seq (ds_par (i := 13) (j := 14) (da_cons (de_call (n := 2) (fs := fs__law_pick K) (dac_own (j := 0) (dac_cons (de_var 10) dac_nil))) (da_cons (de_call (n := 2) (fs := fs__law_pick K) (dac_own (j := 0) (dac_cons (de_var 12) dac_nil))) da_nil)))
      (ds_if (dt_B (de_op o_ne (de_var 13) (de_var 14))) (ds_append (i := 7) (da_cons (de_tup (da_cons (de_cb o_min2 (da_cons (de_var 13) (da_cons (de_var 14) da_nil))) (da_cons (de_cb o_max2 (da_cons (de_var 13) (da_cons (de_var 14) da_nil))) (da_cons (de_op o_ix (de_var 8) de_int) da_nil)))) da_nil)) ds_nil)) ds_nil))))) ds_nil))
      (ds_ret (de_tup (da_cons (de_cb o_tupleOf (da_cons (de_lc (vs := [15]) (wI := (wSeq (wVar 5))) (wg := (wName 15)) (wt := wYes) (we := (wOp gIx (wOp gIx (wVar 1) (wVar 15)) (wC (.int 0)))) (di_seq (de_var 5)) (dg_name 15) dt_yes (de_op o_ix (de_op o_ix (de_var 1) (de_var 15)) de_int) (by decide)) da_nil)) (da_cons (de_peek (i := 7) p_tupleOf) (da_cons (de_cb o_tupleOf (da_cons (de_var 5) da_nil)) da_nil))))))))⟩
abbrev s__law_fault : Stmt := topS 63
theorem sc__law_fault : FnScope ["book", "web", "sorts", "k", "many", "pipe", "one", "other", "join", "kind"] ["book", "web", "sorts"] (defScope s__law_fault) := ⟨rfl, rfl, rfl, by decide +kernel, rfl, by decide +kernel, by decide +kernel⟩
def l1__law_fault (K : PySem.W.Frag) : SW := wFor (wRng1 (wCons (wCB gLen (wCons (wVar 2) wNil)) wNil)) (wName 3) (wIfS (wB (wOp gNe (wOp gIx (wOp gIx (wVar 1) (wC (.int 0))) (wVar 3)) (wOp gIx (wOp gIx (wOp gIx (wVar 0) (wC (.int 0))) (wOp gIx (wVar 2) (wVar 3))) (wC (.int 0))))) (wRet (wTup (wCons (wC (.str "width")) (wCons (wVar 3) wNil)))) wNext)
def c2__law_fault (K : PySem.W.Frag) : EW := wLc (wSeq (wOp gIx (wVar 1) (wC (.int 1)))) (wName 5) (wOr (wB (wOp gEq (wOp gIx (wVar 5) (wC (.int 0))) (wVar 3))) (wB (wOp gEq (wOp gIx (wVar 5) (wC (.int 1))) (wVar 3)))) (wVar 5) [5]
def l3__law_fault (K : PySem.W.Frag) : SW := wFor (wRng1 (wCons (wCB gLen (wCons (wVar 2) wNil)) wNil)) (wName 3) (wSq (wAsg (wCB gLen (wCons (c2__law_fault K) wNil)) (wName 4))
  (wIfS (wAnd (wB (wOp gGtI (wOp gIx (wOp gIx (wVar 1) (wC (.int 0))) (wVar 3)) (wC (.int 0)))) (wB (wOp gGtI (wVar 4) (wOp gIx (wOp gIx (wOp gIx (wVar 0) (wC (.int 0))) (wOp gIx (wVar 2) (wVar 3))) (wC (.int 1)))))) (wRet (wTup (wCons (wC (.str "cap")) (wCons (wVar 3) wNil)))) wNext))
def c4__law_fault (K : PySem.W.Frag) : EW := wLc (wSeq (wOp gIx (wVar 0) (wC (.int 1)))) (wName 9) (wAnd (wB (wOp gEqD (wOp gIx (wVar 9) (wC (.int 0))) (wOp gIx (wOp gIx (wOp gIx (wVar 1) (wC (.int 1))) (wVar 3)) (wC (.int 2))))) (wB (wOp gInT (wVar 8) (wOp gIx (wVar 9) (wC (.int 1)))))) (wVar 9) [9]
def l5__law_fault (K : PySem.W.Frag) : SW := wFor (wRng1 (wCons (wCB gLen (wCons (wOp gIx (wVar 1) (wC (.int 1))) wNil)) wNil)) (wName 3) (wSq (wPar 6 7 (wCons (wOp gIx (wVar 2) (wOp gIx (wOp gIx (wOp gIx (wVar 1) (wC (.int 1))) (wVar 3)) (wC (.int 0)))) (wCons (wOp gIx (wVar 2) (wOp gIx (wOp gIx (wOp gIx (wVar 1) (wC (.int 1))) (wVar 3)) (wC (.int 1)))) wNil)))
  (wSq (wAsg (wTup (wCons (wCB gMin2 (wCons (wVar 6) (wCons (wVar 7) wNil))) (wCons (wCB gMax2 (wCons (wVar 6) (wCons (wVar 7) wNil))) wNil))) (wName 8))
  (wIfS (wB (wOp gEq (wCB gLen (wCons (c4__law_fault K) wNil)) (wC (.int 0)))) (wRet (wTup (wCons (wC (.str "pipe")) (wCons (wVar 3) wNil)))) wNext)))
def w__law_fault (K : PySem.W.Frag) : SW := (wSq (l1__law_fault K)
  (wSq (l3__law_fault K)
  (wSq (l5__law_fault K)
  (wRet (wC .non)))))
section
variable {ss ks us ds so rest : List D} {E : EndsD}
abbrev bkD (ss ks : List D) : D := .tup [.tup ss, .tup ks]
abbrev wbD (us ds : List D) (x : D) : D := .tup [.tup us, .tup ds, x]
def fs__law_fault (K : PySem.W.Frag) : FS := fun cs q _ => ∃ (ss ks us ds so : List D) (x : D), cs = [.dat (bkD ss ks), .dat (wbD us ds x), .dat (.tup so)] ∧ BookV ss ks ∧ WebV us ds ∧ SoV us.length ss.length so ∧ q (faultS ss ks us ds so) cs
theorem l1__law_fault_ok {x : D} {c3 c4 c5 c6 c7 c8 c9 : Cell} (hb : BookV ss ks) (hw : WebV us ds) (hs : SoV us.length ss.length so)
    (hr : ∀ k, firstIx (fWid ss us so) 0 us.length = some k → ∀ c3, E.rt (ftD "width" k) [.dat (bkD ss ks), .dat (wbD us ds x), .dat (.tup so), c3, c4, c5, c6, c7, c8, c9])
    (hn : firstIx (fWid ss us so) 0 us.length = none → (∀ k, k < us.length → fWid ss us so k = true) → ∀ c3, E.nx [.dat (bkD ss ks), .dat (wbD us ds x), .dat (.tup so), c3, c4, c5, c6, c7, c8, c9]) :
    l1__law_fault K E [.dat (bkD ss ks), .dat (wbD us ds x), .dat (.tup so), c3, c4, c5, c6, c7, c8, c9] := by
  unfold l1__law_fault wFor
  refine ⟨_, rfl, _, so, rfl, rfl, _, rfl, by have := hw.1.2.1; rw [hs.1]; omega, by have := hw.1.2.1; rw [hs.1]; omega, fun i τ => (∃ c3, τ = [.dat (bkD ss ks), .dat (wbD us ds x), .dat (.tup so), c3, c4, c5, c6, c7, c8, c9]) ∧ firstIx (fWid ss us so) 0 us.length = firstIx (fWid ss us so) i (us.length - i) ∧ ∀ k, k < i → fWid ss us so k = true, ⟨⟨_, rfl⟩, rfl, fun k h => absurd h (by omega)⟩, ?_, ?_⟩
  · rintro i d τ2 hi ⟨⟨c3, rfl⟩, hf, hk⟩
    have hlt : i < us.length := by
      have := (List.getElem?_eq_some_iff.mp hi).1
      rw [rangeD_length, hs.1] at this
      omega
    rw [rangeD_get (by rw [hs.1]; omega)] at hi
    cases hi
    have z0 : (0 : Int) + (i : Nat) = ((i : Nat) : Int) := by omega
    rw [z0]
    obtain ⟨e1, w0, w1⟩ := betw_at hw.1.2.2 hlt
    obtain ⟨e2, s0, s1⟩ := betw_at (k := i) hs.2 (by rw [hs.1]; exact hlt)
    have e3 := so_get (a := iAt so i) hb.1.2.2.1 s0 (by omega)
    have e4 : atI so ((i : Nat) : Int) = some (.int (iAt so i)) := atI_nat' e2
    have e5 : atI us ((i : Nat) : Int) = some (.int (iAt us i)) := atI_nat' e1
    simp only [seqD_t, e3, e4, e5, wAugOwn, wEnumL, wTru, wSlA, gCatA, gLtT, gLeT, wFrz, wChain3, wAttr, wMkF, wEnumT, wRevT, wDict0, wDict1, numD3, Nat.reduceAdd, atI0, atI1, atI2, atI3, atI4, ixN51, ixN52, ixN53, List.length_map, wNever, scal, V.int.injEq, V.str.injEq, V.bl.injEq, wSq, wNext, wBreak, wCont, wDrop, wRet, wRetN, wIfS, wAsg, wPar, wLstOwn, wAppend, wSetOwn, wIxOwn, wPeek, wRetOwn, wRetFr, wFor, wB, wNot, wAnd, wOr, wAndV, wOrV, wNotV, wIf, wChain, wNil, wCons, wCB, wTup, wLst, wNoPart, wPart, wSlT, wSlL, wSeq, wRng1, wRng2, wZip, wName, wNilT, wConsT, wTupT, wYes, wNeg, wVar, wC, wOp, wcNil, wcCons, wcOwn, wCall, wCallOwn, slots, cellsOf, OwnArgs, putBack, g2I, g2IC, gLen, gAbs, gGcd, gInt1, gTupleOf, gListOf, gIx, gCatT, gCat, gEq, gNe, gIsN, gNotN, scD, seqD_t, seqD_l, seqD_f, isNonD, List.nodup_cons, List.mem_cons, List.not_mem_nil, or_false, not_false_eq_true, Nat.reduceEqDiff, L3.Keeps, ends, wipeD, List.replicate, List.cons_append, List.nil_append, List.append_nil, List.getElem?_cons_zero, List.getElem?_cons_succ, List.set_cons_zero, List.set_cons_succ, List.getD_cons_zero, List.getD_cons_succ, List.length_cons, List.length_nil, List.nodup_nil, Option.some.injEq, Cell.dat.injEq, Cell.own.injEq, Cont.lst.injEq, D.bl.injEq, D.int.injEq, D.str.injEq, D.tup.injEq, D.lst.injEq, Arg.d.injEq, List.cons.injEq, exists_and_left, exists_and_right, exists_eq_left', exists_eq_left, exists_eq_right, exists_eq_right', exists_eq, exists_eq', and_true, true_and, and_assoc, and_self, exists_const, reduceCtorEq]
    cases h : fWid ss us so i with
    | true =>
      rw [firstIx_ok hlt h] at hf
      have h' := of_decide_eq_true h
      simp [h']
      refine ⟨hf, fun k hk' => ?_⟩
      by_cases z : k = i
      · rw [z]; exact h
      · exact hk k (by omega)
    | false =>
      rw [firstIx_no hlt h] at hf
      have h' := of_decide_eq_false h
      simp [h']
      exact hr i hf _
  · rintro τ2 ⟨⟨c3, rfl⟩, hf, hk⟩
    rw [rangeD_length] at hf hk
    have e0 : ((so.length : Int)).toNat = us.length := by rw [hs.1]; omega
    rw [e0] at hf hk
    rw [Nat.sub_self] at hf
    exact hn hf hk _
theorem c2__law_fault_ok {x : D} {k : Nat} {c2 c4 c5 c6 c7 c8 c9 : Cell} {q : D → List Cell → Prop} {e : Xn → List Cell → Prop} (hw : WebV us ds)
    (hq : q (.lst ((ds.filter (touch k)).map id)) [.dat (bkD ss ks), .dat (wbD us ds x), c2, .dat (.int (k : Nat)), c4, .any, c6, c7, c8, c9]) :
    c2__law_fault K [.dat (bkD ss ks), .dat (wbD us ds x), c2, .dat (.int (k : Nat)), c4, c5, c6, c7, c8, c9] q e := by
  unfold c2__law_fault wLc
  refine ⟨_, rfl, _, 1, _, rfl, rfl, atI1, ds, rfl, lc_fm id (touch k) (by have := hw.2.1; omega) (fun d hm k1 k2 h1 h2 => ?_) hq⟩
  obtain ⟨a, b, l, rfl, _⟩ := pi_shape (hw.2.2 d hm)
  simp only [wAugOwn, wEnumL, wTru, wSlA, gCatA, gLtT, gLeT, wFrz, wChain3, wAttr, wMkF, wEnumT, wRevT, wDict0, wDict1, numD3, Nat.reduceAdd, atI0, atI1, atI2, atI3, atI4, ixN51, ixN52, ixN53, List.length_map, wNever, scal, V.int.injEq, V.str.injEq, V.bl.injEq, wSq, wNext, wBreak, wCont, wDrop, wRet, wRetN, wIfS, wAsg, wPar, wLstOwn, wAppend, wSetOwn, wIxOwn, wPeek, wRetOwn, wRetFr, wFor, wB, wNot, wAnd, wOr, wAndV, wOrV, wNotV, wIf, wChain, wNil, wCons, wCB, wTup, wLst, wNoPart, wPart, wSlT, wSlL, wSeq, wRng1, wRng2, wZip, wName, wNilT, wConsT, wTupT, wYes, wNeg, wVar, wC, wOp, wcNil, wcCons, wcOwn, wCall, wCallOwn, slots, cellsOf, OwnArgs, putBack, g2I, g2IC, gLen, gAbs, gGcd, gInt1, gTupleOf, gListOf, gIx, gCatT, gCat, gEq, gNe, gIsN, gNotN, scD, seqD_t, seqD_l, seqD_f, isNonD, List.nodup_cons, List.mem_cons, List.not_mem_nil, or_false, not_false_eq_true, Nat.reduceEqDiff, L3.Keeps, ends, wipeD, List.replicate, List.cons_append, List.nil_append, List.append_nil, List.getElem?_cons_zero, List.getElem?_cons_succ, List.set_cons_zero, List.set_cons_succ, List.getD_cons_zero, List.getD_cons_succ, List.length_cons, List.length_nil, List.nodup_nil, Option.some.injEq, Cell.dat.injEq, Cell.own.injEq, Cont.lst.injEq, D.bl.injEq, D.int.injEq, D.str.injEq, D.tup.injEq, D.lst.injEq, Arg.d.injEq, List.cons.injEq, exists_and_left, exists_and_right, exists_eq_left', exists_eq_left, exists_eq_right, exists_eq_right', exists_eq, exists_eq', and_true, true_and, and_assoc, and_self, exists_const, reduceCtorEq]
  simp only [touch] at h1 h2
  cases z1 : decide (a = (k : Int)) with
  | true =>
    rw [z1, Bool.true_or] at h1
    exact ⟨fun z => (nomatch z), fun _ => ⟨fun _ => h1 rfl _ rfl, fun z => (nomatch z)⟩⟩
  | false =>
    rw [z1, Bool.false_or] at h1 h2
    refine ⟨fun _ => ⟨fun z => h1 z _ rfl, fun z => h2 z _ rfl⟩, fun z => (nomatch z)⟩
theorem l3__law_fault_ok {x : D} {c3 c4 c5 c6 c7 c8 c9 : Cell} (hb : BookV ss ks) (hw : WebV us ds) (hs : SoV us.length ss.length so) (hk : ∀ k, k < us.length → fWid ss us so k = true)
    (hr : ∀ k, firstIx (fCap ss ds so) 0 us.length = some k → ∀ c3 c4 c5, E.rt (ftD "cap" k) [.dat (bkD ss ks), .dat (wbD us ds x), .dat (.tup so), c3, c4, c5, c6, c7, c8, c9])
    (hn : firstIx (fCap ss ds so) 0 us.length = none → ∀ c3 c4 c5, E.nx [.dat (bkD ss ks), .dat (wbD us ds x), .dat (.tup so), c3, c4, c5, c6, c7, c8, c9]) :
    l3__law_fault K E [.dat (bkD ss ks), .dat (wbD us ds x), .dat (.tup so), c3, c4, c5, c6, c7, c8, c9] := by
  unfold l3__law_fault wFor
  refine ⟨_, rfl, _, so, rfl, rfl, _, rfl, by have := hw.1.2.1; rw [hs.1]; omega, by have := hw.1.2.1; rw [hs.1]; omega, fun i τ => (∃ c3 c4 c5, τ = [.dat (bkD ss ks), .dat (wbD us ds x), .dat (.tup so), c3, c4, c5, c6, c7, c8, c9]) ∧ firstIx (fCap ss ds so) 0 us.length = firstIx (fCap ss ds so) i (us.length - i), ⟨⟨_, _, _, rfl⟩, rfl⟩, ?_, ?_⟩
  · rintro i d τ2 hi ⟨⟨c3, c4, c5, rfl⟩, hf⟩
    have hlt : i < us.length := by
      have := (List.getElem?_eq_some_iff.mp hi).1
      rw [rangeD_length, hs.1] at this
      omega
    rw [rangeD_get (by rw [hs.1]; omega)] at hi
    cases hi
    have z0 : (0 : Int) + (i : Nat) = ((i : Nat) : Int) := by omega
    rw [z0]
    obtain ⟨e1, w0, w1⟩ := betw_at hw.1.2.2 hlt
    obtain ⟨e2, s0, s1⟩ := betw_at (k := i) hs.2 (by rw [hs.1]; exact hlt)
    have e3 := so_get (a := iAt so i) hb.1.2.2.1 s0 (by omega)
    have e4 : atI so ((i : Nat) : Int) = some (.int (iAt so i)) := atI_nat' e2
    have e5 : atI us ((i : Nat) : Int) = some (.int (iAt us i)) := atI_nat' e1
    have ew : iAt us i = wAt ss (iAt so i) := of_decide_eq_true (hk i hlt)
    simp only [wSq, wAsg, wName, wCB, wCons, wNil, List.set_cons_zero, List.set_cons_succ]
    refine c2__law_fault_ok hw ?_
    rw [List.map_id]
    simp only [seqD_l, seqD_t, e3, e4, e5, wAugOwn, wEnumL, wTru, wSlA, gCatA, gLtT, gLeT, wFrz, wChain3, wAttr, wMkF, wEnumT, wRevT, wDict0, wDict1, numD3, Nat.reduceAdd, atI0, atI1, atI2, atI3, atI4, ixN51, ixN52, ixN53, List.length_map, wNever, scal, V.int.injEq, V.str.injEq, V.bl.injEq, wSq, wNext, wBreak, wCont, wDrop, wRet, wRetN, wIfS, wAsg, wPar, wLstOwn, wAppend, wSetOwn, wIxOwn, wPeek, wRetOwn, wRetFr, wFor, wB, wNot, wAnd, wOr, wAndV, wOrV, wNotV, wIf, wChain, wNil, wCons, wCB, wTup, wLst, wNoPart, wPart, wSlT, wSlL, wSeq, wRng1, wRng2, wZip, wName, wNilT, wConsT, wTupT, wYes, wNeg, wVar, wC, wOp, wcNil, wcCons, wcOwn, wCall, wCallOwn, slots, cellsOf, OwnArgs, putBack, g2I, g2IC, gLen, gAbs, gGcd, gInt1, gTupleOf, gListOf, gIx, gCatT, gCat, gEq, gNe, gIsN, gNotN, scD, seqD_t, seqD_l, seqD_f, isNonD, List.nodup_cons, List.mem_cons, List.not_mem_nil, or_false, not_false_eq_true, Nat.reduceEqDiff, L3.Keeps, ends, wipeD, List.replicate, List.cons_append, List.nil_append, List.append_nil, List.getElem?_cons_zero, List.getElem?_cons_succ, List.set_cons_zero, List.set_cons_succ, List.getD_cons_zero, List.getD_cons_succ, List.length_cons, List.length_nil, List.nodup_nil, Option.some.injEq, Cell.dat.injEq, Cell.own.injEq, Cont.lst.injEq, D.bl.injEq, D.int.injEq, D.str.injEq, D.tup.injEq, D.lst.injEq, Arg.d.injEq, List.cons.injEq, exists_and_left, exists_and_right, exists_eq_left', exists_eq_left, exists_eq_right, exists_eq_right', exists_eq, exists_eq', and_true, true_and, and_assoc, and_self, exists_const, reduceCtorEq]
    have hx : (decide (0 < iAt us i) && decide (capAt ss (iAt so i) < ((ds.filter (touch i)).length : Nat))) = exC ss (iAt so i) (cntE ds i : Nat) := by rw [ew]; rfl
    cases h : fCap ss ds so i with
    | true =>
      rw [firstIx_ok hlt h] at hf
      have h' : exC ss (iAt so i) (cntE ds i : Nat) = false := by simpa [fCap] using h
      rw [h'] at hx
      cases d1 : decide (0 < iAt us i) <;> cases d2 : decide (capAt ss (iAt so i) < ((ds.filter (touch i)).length : Nat)) <;> rw [d1, d2] at hx <;> first | (exact absurd hx (by decide)) | (simp only [true_implies, Bool.false_eq_true, Bool.true_eq_false, reduceCtorEq, false_implies, and_true, true_and]; exact hf)
    | false =>
      rw [firstIx_no hlt h] at hf
      have h' : exC ss (iAt so i) (cntE ds i : Nat) = true := by simpa [fCap] using h
      rw [h'] at hx
      rw [Bool.and_eq_true] at hx
      simp only [hx.1, hx.2, true_implies, Bool.false_eq_true, Bool.true_eq_false, reduceCtorEq, false_implies, and_true, true_and]
      exact ⟨by decide, hr i hf _ _ _⟩
  · rintro τ2 ⟨⟨c3, c4, c5, rfl⟩, hf⟩
    rw [rangeD_length] at hf
    have e0 : ((so.length : Int)).toNat = us.length := by rw [hs.1]; omega
    rw [e0, Nat.sub_self] at hf
    exact hn hf _ _ _
theorem c4__law_fault_ok {x : D} {k : Nat} {a b : Int} {l : D} {u v : Int} {c2 c4 c5 c6 c7 c9 : Cell} {q : D → List Cell → Prop} {e : Xn → List Cell → Prop} (hb : BookV ss ks) (hd : ds[k]? = some (.tup [.int a, .int b, l])) (hl : isLi l = true)
    (hq : q (.lst ((ks.filter (kOk l (JnD u v))).map id)) [.dat (bkD ss ks), .dat (wbD us ds x), c2, .dat (.int (k : Nat)), c4, c5, c6, c7, .dat (JnD u v), .any]) :
    c4__law_fault K [.dat (bkD ss ks), .dat (wbD us ds x), c2, .dat (.int (k : Nat)), c4, c5, c6, c7, .dat (JnD u v), c9] q e := by
  unfold c4__law_fault wLc
  have f1 : atI ds ((k : Nat) : Int) = some (.tup [.int a, .int b, l]) := atI_nat' hd
  refine ⟨_, rfl, _, 1, _, rfl, rfl, atI1, ks, rfl, lc_fm id (kOk l (JnD u v)) (by have := hb.2.1; omega) (fun d hm k1 k2 h1 h2 => ?_) hq⟩
  obtain ⟨l', js, rfl, h3, h4⟩ := ki_shape (hb.2.2 d hm)
  simp only [seqD_t, f1, wAugOwn, wEnumL, wTru, wSlA, gCatA, gLtT, gLeT, wFrz, wChain3, wAttr, wMkF, wEnumT, wRevT, wDict0, wDict1, numD3, Nat.reduceAdd, atI0, atI1, atI2, atI3, atI4, ixN51, ixN52, ixN53, List.length_map, wNever, scal, V.int.injEq, V.str.injEq, V.bl.injEq, wSq, wNext, wBreak, wCont, wDrop, wRet, wRetN, wIfS, wAsg, wPar, wLstOwn, wAppend, wSetOwn, wIxOwn, wPeek, wRetOwn, wRetFr, wFor, wB, wNot, wAnd, wOr, wAndV, wOrV, wNotV, wIf, wChain, wNil, wCons, wCB, wTup, wLst, wNoPart, wPart, wSlT, wSlL, wSeq, wRng1, wRng2, wZip, wName, wNilT, wConsT, wTupT, wYes, wNeg, wVar, wC, wOp, wcNil, wcCons, wcOwn, wCall, wCallOwn, slots, cellsOf, OwnArgs, putBack, g2I, g2IC, gLen, gAbs, gGcd, gInt1, gTupleOf, gListOf, gIx, gCatT, gCat, gEq, gNe, gIsN, gNotN, scD, seqD_t, seqD_l, seqD_f, isNonD, List.nodup_cons, List.mem_cons, List.not_mem_nil, or_false, not_false_eq_true, Nat.reduceEqDiff, L3.Keeps, ends, wipeD, List.replicate, List.cons_append, List.nil_append, List.append_nil, List.getElem?_cons_zero, List.getElem?_cons_succ, List.set_cons_zero, List.set_cons_succ, List.getD_cons_zero, List.getD_cons_succ, List.length_cons, List.length_nil, List.nodup_nil, Option.some.injEq, Cell.dat.injEq, Cell.own.injEq, Cont.lst.injEq, D.bl.injEq, D.int.injEq, D.str.injEq, D.tup.injEq, D.lst.injEq, Arg.d.injEq, List.cons.injEq, exists_and_left, exists_and_right, exists_eq_left', exists_eq_left, exists_eq_right, exists_eq_right', exists_eq, exists_eq', and_true, true_and, and_assoc, and_self, exists_const, reduceCtorEq]
  simp only [kOk] at h1 h2
  refine gEqD_of (li_sh h3) (li_sh hl) (by decide) (by decide) ⟨_, rfl, fun z => ?_, fun z => ?_⟩
  · rw [z, Bool.true_and] at h1 h2
    refine gInT_of jn_sh h4 (by decide) (by decide) ⟨_, rfl, ⟨fun y => h1 y _ rfl, fun y => h2 y _ rfl⟩⟩
  · rw [z, Bool.false_and] at h2
    exact ⟨fun y => (nomatch y), fun _ => h2 rfl _ rfl⟩
theorem l5__law_fault_ok {x : D} {c3 c4 c5 c6 c7 c8 c9 : Cell} (hb : BookV ss ks) (hw : WebV us ds) (hs : SoV us.length ss.length so)
    (hr : ∀ k, firstIx (fPip ks so ds) 0 ds.length = some k → ∀ c3 c6 c7 c8 c9, E.rt (ftD "pipe" k) [.dat (bkD ss ks), .dat (wbD us ds x), .dat (.tup so), c3, c4, c5, c6, c7, c8, c9])
    (hn : firstIx (fPip ks so ds) 0 ds.length = none → ∀ c3 c6 c7 c8 c9, E.nx [.dat (bkD ss ks), .dat (wbD us ds x), .dat (.tup so), c3, c4, c5, c6, c7, c8, c9]) :
    l5__law_fault K E [.dat (bkD ss ks), .dat (wbD us ds x), .dat (.tup so), c3, c4, c5, c6, c7, c8, c9] := by
  unfold l5__law_fault wFor
  have d36 := hw.2.1
  refine ⟨_, rfl, _, 1, _, rfl, rfl, atI1, _, ds, rfl, rfl, _, rfl, by omega, by omega, fun i τ => (∃ c3 c6 c7 c8 c9, τ = [.dat (bkD ss ks), .dat (wbD us ds x), .dat (.tup so), c3, c4, c5, c6, c7, c8, c9]) ∧ firstIx (fPip ks so ds) 0 ds.length = firstIx (fPip ks so ds) i (ds.length - i), ⟨⟨_, _, _, _, _, rfl⟩, rfl⟩, ?_, ?_⟩
  · rintro i d τ2 hi ⟨⟨c3, c6, c7, c8, c9, rfl⟩, hf⟩
    have hlt : i < ds.length := by
      have := (List.getElem?_eq_some_iff.mp hi).1
      rw [rangeD_length] at this
      omega
    rw [rangeD_get (by omega)] at hi
    cases hi
    have z0 : (0 : Int) + (i : Nat) = ((i : Nat) : Int) := by omega
    rw [z0]
    obtain ⟨a, b, l, e1, a0, ab, bn, hl⟩ := pi_shape (hw.2.2 _ (List.getElem_mem hlt))
    have e1' : ds[i]? = some (.tup [.int a, .int b, l]) := by rw [List.getElem?_eq_getElem hlt, e1]
    have f1 : atI ds ((i : Nat) : Int) = some (.tup [.int a, .int b, l]) := atI_nat' e1'
    obtain ⟨u, rfl⟩ := Int.eq_ofNat_of_zero_le a0
    obtain ⟨v, rfl⟩ := Int.eq_ofNat_of_zero_le (show 0 ≤ b by omega)
    obtain ⟨ex, _⟩ := betw_at (k := u) hs.2 (by rw [hs.1]; omega)
    obtain ⟨ey, _⟩ := betw_at (k := v) hs.2 (by rw [hs.1]; omega)
    have fx : atI so ((u : Nat) : Int) = some (.int (iAt so u)) := atI_nat' ex
    have fy : atI so ((v : Nat) : Int) = some (.int (iAt so v)) := atI_nat' ey
    have fp : fPip ks so ds i = mayJ ks l (iAt so u) (iAt so v) := by
      unfold fPip
      rw [e1']
      simp
    simp only [seqD_t, f1, fx, fy, gMin2, gMax2, wAugOwn, wEnumL, wTru, wSlA, gCatA, gLtT, gLeT, wFrz, wChain3, wAttr, wMkF, wEnumT, wRevT, wDict0, wDict1, numD3, Nat.reduceAdd, atI0, atI1, atI2, atI3, atI4, ixN51, ixN52, ixN53, List.length_map, wNever, scal, V.int.injEq, V.str.injEq, V.bl.injEq, wSq, wNext, wBreak, wCont, wDrop, wRet, wRetN, wIfS, wAsg, wPar, wLstOwn, wAppend, wSetOwn, wIxOwn, wPeek, wRetOwn, wRetFr, wFor, wB, wNot, wAnd, wOr, wAndV, wOrV, wNotV, wIf, wChain, wNil, wCons, wCB, wTup, wLst, wNoPart, wPart, wSlT, wSlL, wSeq, wRng1, wRng2, wZip, wName, wNilT, wConsT, wTupT, wYes, wNeg, wVar, wC, wOp, wcNil, wcCons, wcOwn, wCall, wCallOwn, slots, cellsOf, OwnArgs, putBack, g2I, g2IC, gLen, gAbs, gGcd, gInt1, gTupleOf, gListOf, gIx, gCatT, gCat, gEq, gNe, gIsN, gNotN, scD, seqD_t, seqD_l, seqD_f, isNonD, List.nodup_cons, List.mem_cons, List.not_mem_nil, or_false, not_false_eq_true, Nat.reduceEqDiff, L3.Keeps, ends, wipeD, List.replicate, List.cons_append, List.nil_append, List.append_nil, List.getElem?_cons_zero, List.getElem?_cons_succ, List.set_cons_zero, List.set_cons_succ, List.getD_cons_zero, List.getD_cons_succ, List.length_cons, List.length_nil, List.nodup_nil, Option.some.injEq, Cell.dat.injEq, Cell.own.injEq, Cont.lst.injEq, D.bl.injEq, D.int.injEq, D.str.injEq, D.tup.injEq, D.lst.injEq, Arg.d.injEq, List.cons.injEq, exists_and_left, exists_and_right, exists_eq_left', exists_eq_left, exists_eq_right, exists_eq_right', exists_eq, exists_eq', and_true, true_and, and_assoc, and_self, exists_const, reduceCtorEq]
    refine ⟨by decide, c4__law_fault_ok hb e1' hl ?_⟩
    rw [List.map_id]
    have fa : decide (((ks.filter (kOk l (JnD (iAt so u) (iAt so v)))).length : Int) = 0) = !fPip ks so ds i := by
      rw [fp]
      unfold mayJ
      cases z : ks.any (kOk l (JnD (iAt so u) (iAt so v))) with
      | true =>
        obtain ⟨d, hd, hk⟩ := List.any_eq_true.mp z
        have := List.length_pos_of_mem (List.mem_filter.mpr ⟨hd, hk⟩)
        exact decide_eq_false (by omega)
      | false =>
        have : ks.filter (kOk l (JnD (iAt so u) (iAt so v))) = [] := List.filter_eq_nil_iff.mpr fun d hd => by
          have := List.any_eq_false.mp z d hd
          simpa using this
        rw [this]
        rfl
    simp only [seqD_l, wAugOwn, wEnumL, wTru, wSlA, gCatA, gLtT, gLeT, wFrz, wChain3, wAttr, wMkF, wEnumT, wRevT, wDict0, wDict1, numD3, Nat.reduceAdd, atI0, atI1, atI2, atI3, atI4, ixN51, ixN52, ixN53, List.length_map, wNever, scal, V.int.injEq, V.str.injEq, V.bl.injEq, wSq, wNext, wBreak, wCont, wDrop, wRet, wRetN, wIfS, wAsg, wPar, wLstOwn, wAppend, wSetOwn, wIxOwn, wPeek, wRetOwn, wRetFr, wFor, wB, wNot, wAnd, wOr, wAndV, wOrV, wNotV, wIf, wChain, wNil, wCons, wCB, wTup, wLst, wNoPart, wPart, wSlT, wSlL, wSeq, wRng1, wRng2, wZip, wName, wNilT, wConsT, wTupT, wYes, wNeg, wVar, wC, wOp, wcNil, wcCons, wcOwn, wCall, wCallOwn, slots, cellsOf, OwnArgs, putBack, g2I, g2IC, gLen, gAbs, gGcd, gInt1, gTupleOf, gListOf, gIx, gCatT, gCat, gEq, gNe, gIsN, gNotN, scD, seqD_t, seqD_l, seqD_f, isNonD, List.nodup_cons, List.mem_cons, List.not_mem_nil, or_false, not_false_eq_true, Nat.reduceEqDiff, L3.Keeps, ends, wipeD, List.replicate, List.cons_append, List.nil_append, List.append_nil, List.getElem?_cons_zero, List.getElem?_cons_succ, List.set_cons_zero, List.set_cons_succ, List.getD_cons_zero, List.getD_cons_succ, List.length_cons, List.length_nil, List.nodup_nil, Option.some.injEq, Cell.dat.injEq, Cell.own.injEq, Cont.lst.injEq, D.bl.injEq, D.int.injEq, D.str.injEq, D.tup.injEq, D.lst.injEq, Arg.d.injEq, List.cons.injEq, exists_and_left, exists_and_right, exists_eq_left', exists_eq_left, exists_eq_right, exists_eq_right', exists_eq, exists_eq', and_true, true_and, and_assoc, and_self, exists_const, reduceCtorEq]
    rw [fa]
    cases h : fPip ks so ds i with
    | true =>
      rw [firstIx_ok hlt h] at hf
      exact ⟨fun z => (nomatch z), fun _ => hf⟩
    | false =>
      rw [firstIx_no hlt h] at hf
      exact ⟨fun _ => ⟨by decide, hr i hf _ _ _ _ _⟩, fun z => (nomatch z)⟩
  · rintro τ2 ⟨⟨c3, c6, c7, c8, c9, rfl⟩, hf⟩
    rw [rangeD_length] at hf
    have e0 : ((ds.length : Int)).toNat = ds.length := by omega
    rw [e0, Nat.sub_self] at hf
    exact hn hf _ _ _ _ _
end
theorem pure__law_fault : PureD 3 7 (fs__law_fault K) (w__law_fault K) := by
  rintro cs q e - ⟨ss, ks, us, ds, so, x, rfl, hb, hw, hs, hq⟩
  simp only [w__law_fault, wSq]
  refine l1__law_fault_ok (K := K) hb hw hs (fun k hk c3 => ?_) fun h1 hall c3 => ?_
  · simp only [faultS, hk] at hq
    simp only [wAugOwn, wEnumL, wTru, wSlA, gCatA, gLtT, gLeT, wFrz, wChain3, wAttr, wMkF, wEnumT, wRevT, wDict0, wDict1, numD3, Nat.reduceAdd, atI0, atI1, atI2, atI3, atI4, ixN51, ixN52, ixN53, List.length_map, wNever, scal, V.int.injEq, V.str.injEq, V.bl.injEq, wSq, wNext, wBreak, wCont, wDrop, wRet, wRetN, wIfS, wAsg, wPar, wLstOwn, wAppend, wSetOwn, wIxOwn, wPeek, wRetOwn, wRetFr, wFor, wB, wNot, wAnd, wOr, wAndV, wOrV, wNotV, wIf, wChain, wNil, wCons, wCB, wTup, wLst, wNoPart, wPart, wSlT, wSlL, wSeq, wRng1, wRng2, wZip, wName, wNilT, wConsT, wTupT, wYes, wNeg, wVar, wC, wOp, wcNil, wcCons, wcOwn, wCall, wCallOwn, slots, cellsOf, OwnArgs, putBack, g2I, g2IC, gLen, gAbs, gGcd, gInt1, gTupleOf, gListOf, gIx, gCatT, gCat, gEq, gNe, gIsN, gNotN, scD, seqD_t, seqD_l, seqD_f, isNonD, List.nodup_cons, List.mem_cons, List.not_mem_nil, or_false, not_false_eq_true, Nat.reduceEqDiff, L3.Keeps, ends, wipeD, List.replicate, List.cons_append, List.nil_append, List.append_nil, List.getElem?_cons_zero, List.getElem?_cons_succ, List.set_cons_zero, List.set_cons_succ, List.getD_cons_zero, List.getD_cons_succ, List.length_cons, List.length_nil, List.nodup_nil, Option.some.injEq, Cell.dat.injEq, Cell.own.injEq, Cont.lst.injEq, D.bl.injEq, D.int.injEq, D.str.injEq, D.tup.injEq, D.lst.injEq, Arg.d.injEq, List.cons.injEq, exists_and_left, exists_and_right, exists_eq_left', exists_eq_left, exists_eq_right, exists_eq_right', exists_eq, exists_eq', and_true, true_and, and_assoc, and_self, exists_const, reduceCtorEq]
    exact hq
  · refine l3__law_fault_ok (K := K) hb hw hs hall (fun k hk c3 c4 c5 => ?_) fun h2 c3 c4 c5 => ?_
    · simp only [faultS, h1, hk] at hq
      simp only [wAugOwn, wEnumL, wTru, wSlA, gCatA, gLtT, gLeT, wFrz, wChain3, wAttr, wMkF, wEnumT, wRevT, wDict0, wDict1, numD3, Nat.reduceAdd, atI0, atI1, atI2, atI3, atI4, ixN51, ixN52, ixN53, List.length_map, wNever, scal, V.int.injEq, V.str.injEq, V.bl.injEq, wSq, wNext, wBreak, wCont, wDrop, wRet, wRetN, wIfS, wAsg, wPar, wLstOwn, wAppend, wSetOwn, wIxOwn, wPeek, wRetOwn, wRetFr, wFor, wB, wNot, wAnd, wOr, wAndV, wOrV, wNotV, wIf, wChain, wNil, wCons, wCB, wTup, wLst, wNoPart, wPart, wSlT, wSlL, wSeq, wRng1, wRng2, wZip, wName, wNilT, wConsT, wTupT, wYes, wNeg, wVar, wC, wOp, wcNil, wcCons, wcOwn, wCall, wCallOwn, slots, cellsOf, OwnArgs, putBack, g2I, g2IC, gLen, gAbs, gGcd, gInt1, gTupleOf, gListOf, gIx, gCatT, gCat, gEq, gNe, gIsN, gNotN, scD, seqD_t, seqD_l, seqD_f, isNonD, List.nodup_cons, List.mem_cons, List.not_mem_nil, or_false, not_false_eq_true, Nat.reduceEqDiff, L3.Keeps, ends, wipeD, List.replicate, List.cons_append, List.nil_append, List.append_nil, List.getElem?_cons_zero, List.getElem?_cons_succ, List.set_cons_zero, List.set_cons_succ, List.getD_cons_zero, List.getD_cons_succ, List.length_cons, List.length_nil, List.nodup_nil, Option.some.injEq, Cell.dat.injEq, Cell.own.injEq, Cont.lst.injEq, D.bl.injEq, D.int.injEq, D.str.injEq, D.tup.injEq, D.lst.injEq, Arg.d.injEq, List.cons.injEq, exists_and_left, exists_and_right, exists_eq_left', exists_eq_left, exists_eq_right, exists_eq_right', exists_eq, exists_eq', and_true, true_and, and_assoc, and_self, exists_const, reduceCtorEq]
      exact hq
    · refine l5__law_fault_ok (K := K) hb hw hs (fun k hk c3 c6 c7 c8 c9 => ?_) fun h3 c3 c6 c7 c8 c9 => ?_
      · simp only [faultS, h1, h2, hk] at hq
        simp only [wAugOwn, wEnumL, wTru, wSlA, gCatA, gLtT, gLeT, wFrz, wChain3, wAttr, wMkF, wEnumT, wRevT, wDict0, wDict1, numD3, Nat.reduceAdd, atI0, atI1, atI2, atI3, atI4, ixN51, ixN52, ixN53, List.length_map, wNever, scal, V.int.injEq, V.str.injEq, V.bl.injEq, wSq, wNext, wBreak, wCont, wDrop, wRet, wRetN, wIfS, wAsg, wPar, wLstOwn, wAppend, wSetOwn, wIxOwn, wPeek, wRetOwn, wRetFr, wFor, wB, wNot, wAnd, wOr, wAndV, wOrV, wNotV, wIf, wChain, wNil, wCons, wCB, wTup, wLst, wNoPart, wPart, wSlT, wSlL, wSeq, wRng1, wRng2, wZip, wName, wNilT, wConsT, wTupT, wYes, wNeg, wVar, wC, wOp, wcNil, wcCons, wcOwn, wCall, wCallOwn, slots, cellsOf, OwnArgs, putBack, g2I, g2IC, gLen, gAbs, gGcd, gInt1, gTupleOf, gListOf, gIx, gCatT, gCat, gEq, gNe, gIsN, gNotN, scD, seqD_t, seqD_l, seqD_f, isNonD, List.nodup_cons, List.mem_cons, List.not_mem_nil, or_false, not_false_eq_true, Nat.reduceEqDiff, L3.Keeps, ends, wipeD, List.replicate, List.cons_append, List.nil_append, List.append_nil, List.getElem?_cons_zero, List.getElem?_cons_succ, List.set_cons_zero, List.set_cons_succ, List.getD_cons_zero, List.getD_cons_succ, List.length_cons, List.length_nil, List.nodup_nil, Option.some.injEq, Cell.dat.injEq, Cell.own.injEq, Cont.lst.injEq, D.bl.injEq, D.int.injEq, D.str.injEq, D.tup.injEq, D.lst.injEq, Arg.d.injEq, List.cons.injEq, exists_and_left, exists_and_right, exists_eq_left', exists_eq_left, exists_eq_right, exists_eq_right', exists_eq, exists_eq', and_true, true_and, and_assoc, and_self, exists_const, reduceCtorEq]
        exact hq
      · simp only [faultS, h1, h2, h3] at hq
        simp only [wAugOwn, wEnumL, wTru, wSlA, gCatA, gLtT, gLeT, wFrz, wChain3, wAttr, wMkF, wEnumT, wRevT, wDict0, wDict1, numD3, Nat.reduceAdd, atI0, atI1, atI2, atI3, atI4, ixN51, ixN52, ixN53, List.length_map, wNever, scal, V.int.injEq, V.str.injEq, V.bl.injEq, wSq, wNext, wBreak, wCont, wDrop, wRet, wRetN, wIfS, wAsg, wPar, wLstOwn, wAppend, wSetOwn, wIxOwn, wPeek, wRetOwn, wRetFr, wFor, wB, wNot, wAnd, wOr, wAndV, wOrV, wNotV, wIf, wChain, wNil, wCons, wCB, wTup, wLst, wNoPart, wPart, wSlT, wSlL, wSeq, wRng1, wRng2, wZip, wName, wNilT, wConsT, wTupT, wYes, wNeg, wVar, wC, wOp, wcNil, wcCons, wcOwn, wCall, wCallOwn, slots, cellsOf, OwnArgs, putBack, g2I, g2IC, gLen, gAbs, gGcd, gInt1, gTupleOf, gListOf, gIx, gCatT, gCat, gEq, gNe, gIsN, gNotN, scD, seqD_t, seqD_l, seqD_f, isNonD, List.nodup_cons, List.mem_cons, List.not_mem_nil, or_false, not_false_eq_true, Nat.reduceEqDiff, L3.Keeps, ends, wipeD, List.replicate, List.cons_append, List.nil_append, List.append_nil, List.getElem?_cons_zero, List.getElem?_cons_succ, List.set_cons_zero, List.set_cons_succ, List.getD_cons_zero, List.getD_cons_succ, List.length_cons, List.length_nil, List.nodup_nil, Option.some.injEq, Cell.dat.injEq, Cell.own.injEq, Cont.lst.injEq, D.bl.injEq, D.int.injEq, D.str.injEq, D.tup.injEq, D.lst.injEq, Arg.d.injEq, List.cons.injEq, exists_and_left, exists_and_right, exists_eq_left', exists_eq_left, exists_eq_right, exists_eq_right', exists_eq, exists_eq', and_true, true_and, and_assoc, and_self, exists_const, reduceCtorEq]
        exact hq
theorem ok__law_fault (T : Txt K mg) : FnOk P w K mg base (L2.CX P w) 1 T.f__law_fault T.fd__law_fault ["book", "web", "sorts"] (spOf K 3 (fs__law_fault K)) := by
  refine def_ok T.F__law_fault sc__law_fault (wb := w__law_fault K) pure__law_fault ?_
  intro cdv A outer s H E hr tk
  exact ⟨_, (pss_cons (ps_for (passes_of rfl) rfl (pi_range1 (by rfl) T.z_range (pa_cons (pe_callB call_len_seq (by rfl) T.z_len (by decide +kernel) (pa_cons (pv 2) pa_nil)) pa_nil)) (pg_name (i := 3) sc__law_fault.nd rfl (by first | exact Or.inl rfl | exact Or.inr rfl))
        (pss_one (ps_if (pt_cmpR op_ne (pe_ix ix_seq (pe_ix ix_seq (pv 1) pe_int (fun _ _ => rfl)) (pv 3) (fun _ _ => rfl)) (pe_ix ix_seq (pe_ix ix_seq (pe_ix ix_seq (pv 0) pe_int (fun _ _ => rfl)) (pe_ix ix_seq (pv 2) (pv 3) (fun _ _ => rfl)) (fun _ _ => rfl)) pe_int (fun _ _ => rfl)) (nomark _))
        (pss_one (ps_ret (pe_tup (pa_cons pe_str (pa_cons (pv 3) pa_nil)))))
        pss_nil)))
      (pss_cons (ps_for (passes_of rfl) rfl (pi_range1 (by rfl) T.z_range (pa_cons (pe_callB call_len_seq (by rfl) T.z_len (by decide +kernel) (pa_cons (pv 2) pa_nil)) pa_nil)) (pg_name (i := 3) sc__law_fault.nd rfl (by first | exact Or.inl rfl | exact Or.inr rfl))
        (pss_cons (ps_set (i := 4) sc__law_fault.nd rfl (by first | exact Or.inl rfl | exact Or.inr rfl) (pe_callB call_len_seq (by rfl) T.z_len (by decide +kernel) (pa_cons (pe_lc (own := [("pipe", 5)]) (g := (gName 5)) (tt := (tOr (tTest (tOp rEq (tOp (rIx K) (tVar 5) (tC (.int 0))) (tVar 3))) (tTest (tOp rEq (tOp (rIx K) (tVar 5) (tC (.int 1))) (tVar 3))))) (te := (tVar 5)) rfl sc__law_fault.nd (pi_seq (pe_ix ix_seq (pv 1) pe_int (fun _ _ => rfl))) (blkOk_by (N := ["book", "web", "sorts", "k", "many", "pipe", "one", "other", "join", "kind"]) (sc := defScope s__law_fault) (by decide +kernel)) (fun _ _ _ _ _ => (pg_name (i := 5) sc__law_fault.nd rfl (by first | exact Or.inl rfl | exact Or.inr rfl))) (fun _ _ _ _ _ => (pts_one (PW.pt (pw_or (pt_cmpR op_eq (pe_ix ix_seq (pv 5) pe_int (fun _ _ => rfl)) (pv 3) (nomark _)) (pw_or1 (pt_cmpR op_eq (pe_ix ix_seq (pv 5) pe_int (fun _ _ => rfl)) (pv 3) (nomark _))))))) (fun _ _ _ _ _ => (pv 5))) pa_nil)))
      (pss_one (ps_if (PW.pt (pw_and (pt_cmpR op_gt (pe_ix ix_seq (pe_ix ix_seq (pv 1) pe_int (fun _ _ => rfl)) (pv 3) (fun _ _ => rfl)) pe_int (nomark _)) (pw_and1 (pt_cmpR op_gt (pv 4) (pe_ix ix_seq (pe_ix ix_seq (pe_ix ix_seq (pv 0) pe_int (fun _ _ => rfl)) (pe_ix ix_seq (pv 2) (pv 3) (fun _ _ => rfl)) (fun _ _ => rfl)) pe_int (fun _ _ => rfl)) (nomark _)))))
        (pss_one (ps_ret (pe_tup (pa_cons pe_str (pa_cons (pv 3) pa_nil)))))
        pss_nil))))
      (pss_cons (ps_for (passes_of rfl) rfl (pi_range1 (by rfl) T.z_range (pa_cons (pe_callB call_len_seq (by rfl) T.z_len (by decide +kernel) (pa_cons (pe_ix ix_seq (pv 1) pe_int (fun _ _ => rfl)) pa_nil)) pa_nil)) (pg_name (i := 3) sc__law_fault.nd rfl (by first | exact Or.inl rfl | exact Or.inr rfl))
        (pss_cons (ps_par (i := 6) (j := 7) (by rfl) sc__law_fault.nd rfl rfl (by decide) rfl rfl (pa_cons (pe_ix ix_seq (pv 2) (pe_ix ix_seq (pe_ix ix_seq (pe_ix ix_seq (pv 1) pe_int (fun _ _ => rfl)) (pv 3) (fun _ _ => rfl)) pe_int (fun _ _ => rfl)) (fun _ _ => rfl)) (pa_cons (pe_ix ix_seq (pv 2) (pe_ix ix_seq (pe_ix ix_seq (pe_ix ix_seq (pv 1) pe_int (fun _ _ => rfl)) (pv 3) (fun _ _ => rfl)) pe_int (fun _ _ => rfl)) (fun _ _ => rfl)) pa_nil)) (by rfl))
      (pss_cons (ps_set (i := 8) sc__law_fault.nd rfl (by first | exact Or.inl rfl | exact Or.inr rfl) (pe_tup (pa_cons (pe_callB (call_min2 rfl) (by rfl) T.z_min (by decide +kernel) (pa_cons (pv 6) (pa_cons (pv 7) pa_nil))) (pa_cons (pe_callB (call_max2 rfl) (by rfl) T.z_max (by decide +kernel) (pa_cons (pv 6) (pa_cons (pv 7) pa_nil))) pa_nil))))
      (pss_one (ps_if (pt_cmpR op_eq (pe_callB call_len_seq (by rfl) T.z_len (by decide +kernel) (pa_cons (pe_lc (own := [("kind", 9)]) (g := (gName 9)) (tt := (tAnd (tTest (tOp (rEqD K) (tOp (rIx K) (tVar 9) (tC (.int 0))) (tOp (rIx K) (tOp (rIx K) (tOp (rIx K) (tVar 1) (tC (.int 1))) (tVar 3)) (tC (.int 2))))) (tTest (tOp (rInT K) (tVar 8) (tOp (rIx K) (tVar 9) (tC (.int 1))))))) (te := (tVar 9)) rfl sc__law_fault.nd (pi_seq (pe_ix ix_seq (pv 0) pe_int (fun _ _ => rfl))) (blkOk_by (N := ["book", "web", "sorts", "k", "many", "pipe", "one", "other", "join", "kind"]) (sc := defScope s__law_fault) (by decide +kernel)) (fun _ _ _ _ _ => (pg_name (i := 9) sc__law_fault.nd rfl (by first | exact Or.inl rfl | exact Or.inr rfl))) (fun _ _ _ _ _ => (pts_one (PW.pt (pw_and (pt_cmpR (op_eqD hr.units) (pe_ix ix_seq (pv 9) pe_int (fun _ _ => rfl)) (pe_ix ix_seq (pe_ix ix_seq (pe_ix ix_seq (pv 1) pe_int (fun _ _ => rfl)) (pv 3) (fun _ _ => rfl)) pe_int (fun _ _ => rfl)) (nomark _)) (pw_and1 (pt_cmpR (op_inT (lt65 hr)) (pv 8) (pe_ix ix_seq (pv 9) pe_int (fun _ _ => rfl)) (by with_unfolding_all rfl))))))) (fun _ _ _ _ _ => (pv 9))) pa_nil)) pe_int (nomark _))
        (pss_one (ps_ret (pe_tup (pa_cons pe_str (pa_cons (pv 3) pa_nil)))))
        pss_nil)))))
      (pss_one (ps_ret pe_non))))),
    (ds_seq (ds_for (wI := (wRng1 (wCons (wCB gLen (wCons (wVar 2) wNil)) wNil))) (wg := (wName 3)) (wb := (wIfS (wB (wOp gNe (wOp gIx (wOp gIx (wVar 1) (wC (.int 0))) (wVar 3)) (wOp gIx (wOp gIx (wOp gIx (wVar 0) (wC (.int 0))) (wOp gIx (wVar 2) (wVar 3))) (wC (.int 0))))) (wRet (wTup (wCons (wC (.str "width")) (wCons (wVar 3) wNil)))) wNext)) (di_rng1 (da_cons (de_cb o_len (da_cons (de_var 2) da_nil)) da_nil)) (dg_name 3) (ds_if (dt_B (de_op o_ne (de_op o_ix (de_op o_ix (de_var 1) de_int) (de_var 3)) (de_op o_ix (de_op o_ix (de_op o_ix (de_var 0) de_int) (de_op o_ix (de_var 2) (de_var 3))) de_int))) (ds_ret (de_tup (da_cons de_str (da_cons (de_var 3) da_nil)))) ds_nil))
      (ds_seq (ds_for (wI := (wRng1 (wCons (wCB gLen (wCons (wVar 2) wNil)) wNil))) (wg := (wName 3)) (wb := (wSq (wAsg (wCB gLen (wCons (c2__law_fault K) wNil)) (wName 4))
  (wIfS (wAnd (wB (wOp gGtI (wOp gIx (wOp gIx (wVar 1) (wC (.int 0))) (wVar 3)) (wC (.int 0)))) (wB (wOp gGtI (wVar 4) (wOp gIx (wOp gIx (wOp gIx (wVar 0) (wC (.int 0))) (wOp gIx (wVar 2) (wVar 3))) (wC (.int 1)))))) (wRet (wTup (wCons (wC (.str "cap")) (wCons (wVar 3) wNil)))) wNext))) (di_rng1 (da_cons (de_cb o_len (da_cons (de_var 2) da_nil)) da_nil)) (dg_name 3) (ds_seq (ds_asg (de_cb o_len (da_cons (de_lc (vs := [5]) (wI := (wSeq (wOp gIx (wVar 1) (wC (.int 1))))) (wg := (wName 5)) (wt := (wOr (wB (wOp gEq (wOp gIx (wVar 5) (wC (.int 0))) (wVar 3))) (wB (wOp gEq (wOp gIx (wVar 5) (wC (.int 1))) (wVar 3))))) (we := (wVar 5)) (di_seq (de_op o_ix (de_var 1) de_int)) (dg_name 5) (dt_or (dt_B (de_op o_eq (de_op o_ix (de_var 5) de_int) (de_var 3))) (dt_B (de_op o_eq (de_op o_ix (de_var 5) de_int) (de_var 3)))) (de_var 5) (by decide)) da_nil)) (dg_name 4))
      (ds_if (dt_and (dt_B (de_op o_gt (de_op o_ix (de_op o_ix (de_var 1) de_int) (de_var 3)) de_int)) (dt_B (de_op o_gt (de_var 4) (de_op o_ix (de_op o_ix (de_op o_ix (de_var 0) de_int) (de_op o_ix (de_var 2) (de_var 3))) de_int)))) (ds_ret (de_tup (da_cons de_str (da_cons (de_var 3) da_nil)))) ds_nil)))
      (ds_seq (ds_for (wI := (wRng1 (wCons (wCB gLen (wCons (wOp gIx (wVar 1) (wC (.int 1))) wNil)) wNil))) (wg := (wName 3)) (wb := (wSq (wPar 6 7 (wCons (wOp gIx (wVar 2) (wOp gIx (wOp gIx (wOp gIx (wVar 1) (wC (.int 1))) (wVar 3)) (wC (.int 0)))) (wCons (wOp gIx (wVar 2) (wOp gIx (wOp gIx (wOp gIx (wVar 1) (wC (.int 1))) (wVar 3)) (wC (.int 1)))) wNil)))
  (wSq (wAsg (wTup (wCons (wCB gMin2 (wCons (wVar 6) (wCons (wVar 7) wNil))) (wCons (wCB gMax2 (wCons (wVar 6) (wCons (wVar 7) wNil))) wNil))) (wName 8))
  (wIfS (wB (wOp gEq (wCB gLen (wCons (c4__law_fault K) wNil)) (wC (.int 0)))) (wRet (wTup (wCons (wC (.str "pipe")) (wCons (wVar 3) wNil)))) wNext)))) (di_rng1 (da_cons (de_cb o_len (da_cons (de_op o_ix (de_var 1) de_int) da_nil)) da_nil)) (dg_name 3) (ds_seq (ds_par (i := 6) (j := 7) (da_cons (de_op o_ix (de_var 2) (de_op o_ix (de_op o_ix (de_op o_ix (de_var 1) de_int) (de_var 3)) de_int)) (da_cons (de_op o_ix (de_var 2) (de_op o_ix (de_op o_ix (de_op o_ix (de_var 1) de_int) (de_var 3)) de_int)) da_nil)))
      (ds_seq (ds_asg (de_tup (da_cons (de_cb o_min2 (da_cons (de_var 6) (da_cons (de_var 7) da_nil))) (da_cons (de_cb o_max2 (da_cons (de_var 6) (da_cons (de_var 7) da_nil))) da_nil))) (dg_name 8))
      (ds_if (dt_B (de_op o_eq (de_cb o_len (da_cons (de_lc (vs := [9]) (wI := (wSeq (wOp gIx (wVar 0) (wC (.int 1))))) (wg := (wName 9)) (wt := (wAnd (wB (wOp gEqD (wOp gIx (wVar 9) (wC (.int 0))) (wOp gIx (wOp gIx (wOp gIx (wVar 1) (wC (.int 1))) (wVar 3)) (wC (.int 2))))) (wB (wOp gInT (wVar 8) (wOp gIx (wVar 9) (wC (.int 1))))))) (we := (wVar 9)) (di_seq (de_op o_ix (de_var 0) de_int)) (dg_name 9) (dt_and (dt_B (de_op o_eqD (de_op o_ix (de_var 9) de_int) (de_op o_ix (de_op o_ix (de_op o_ix (de_var 1) de_int) (de_var 3)) de_int))) (dt_B (de_op o_inT (de_var 8) (de_op o_ix (de_var 9) de_int)))) (de_var 9) (by decide)) da_nil)) de_int)) (ds_ret (de_tup (da_cons de_str (da_cons (de_var 3) da_nil)))) ds_nil))))
      (ds_ret de_non))))⟩
abbrev s__law_told : Stmt := topS 64
theorem sc__law_told : FnScope ["action", "found", "e"] ["action"] (defScope s__law_told) := ⟨rfl, rfl, rfl, by decide +kernel, rfl, by decide +kernel, by decide +kernel⟩
/-- what is asked of an own error that is caught -/
structure TellF (K : PySem.W.Frag) (Z : CT) (C : Addr) (b1 b2 b3 : Bool) : Prop where
  ex : ExcC K C
  m : PySem.W.exmOne K (.ref C) (.ref Z.C_TidesError) = some true
  k1 : PySem.W.kitOne K (.ref C) (.ref Z.C_NoSorts) = some b1
  k2 : PySem.W.kitOne K (.ref C) (.ref Z.C_NoSort) = some b2
  k3 : PySem.W.kitOne K (.ref C) (.ref Z.C_BadBook) = some b3
def tellC (K : PySem.W.Frag) (Z : CT) : Addr → List D → Prop := fun C ds => ∃ b1 b2 b3 : Bool, ds = [.bl b1, .bl b2, .bl b3] ∧ TellF K Z C b1 b2 b3
def suiteT (K : PySem.W.Frag) (Z : CT) (a : Addr) (cls : Value) (d : Option Addr) : TS := fun D σ H => ∃ C : Addr, (cls = .ref C ∧ d = none ∧ ExcC K C) ∧ (σ.length = 3 → tAsg (tTup (tCons (tC (.str "refused")) (tCons (tLst (tCons (tCB (rIsE K C a) (tCons (tVar 2) (tCons (tC (.ref Z.C_NoSorts)) tNil))) (tCons (tCB (rIsE K C a) (tCons (tVar 2) (tCons (tC (.ref Z.C_NoSort)) tNil))) (tCons (tCB (rIsE K C a) (tCons (tVar 2) (tCons (tC (.ref Z.C_BadBook)) tNil))) tNil)))) (tCons (tC (.int 0)) tNil)))) (gName 1) D σ H)
theorem told_gives {X : Cx} (T : Txt X.K X.mg) {g : Addr} {cdg : Value} {q : Str} : LamX.GivesTo X ["action", "found", "e"] "_law_told" (defScope s__law_told) g cdg (defBody s__law_told) "action" q (toldTT X.K (tellC X.K T.Z)) := by
  intro f c' s H Q tl hact hc hTT
  have nd : (["action", "found", "e"] : List Str).Nodup := by decide +kernel
  refine ⟨_, pss_cons (ps_try_as (i := 2) (ts := suiteT X.K T.Z) rfl rfl nd rfl rfl ⟨rfl, by decide, .inl T.gc_TidesError⟩ L2.takes0 (fun W pn xe tk po => pss_one (ps_set (i := 1) nd rfl (by first | exact Or.inl rfl | exact Or.inr rfl) (pe_tup (pa_cons pe_str (pa_cons (hact W pn xe (fun cls d H' => ∀ σ', W cls d σ' H') _ _ tk fun cls d σ' H' h => h σ') pa_nil)))))
    (fun a oe cls d pn hz hf => ?_)) (pss_one (ps_ret (pv 1))), ?_⟩
  · refine pss_ex (P := fun C : Addr => cls = .ref C ∧ d = none ∧ ExcC X.K C) fun C hP => ?_
    obtain ⟨rfl, rfl, hx⟩ := hP
    exact pss_one (ps_set (i := 1) nd rfl (by first | exact Or.inl rfl | exact Or.inr rfl) (pe_tup (pa_cons pe_str (pa_cons (pe_lst (pa_cons (pe_callB (call_isE hx hz hf) (by rfl) T.z_isinstance (by decide +kernel) (pa_cons (pv 2) (pa_cons (pe_glob (v := .ref _) rfl T.x_NoSorts.gC rfl) pa_nil)))
      (pa_cons (pe_callB (call_isE hx hz hf) (by rfl) T.z_isinstance (by decide +kernel) (pa_cons (pv 2) (pa_cons (pe_glob (v := .ref _) rfl T.gc_NoSort rfl) pa_nil)))
      (pa_cons (pe_callB (call_isE hx hz hf) (by rfl) T.z_isinstance (by decide +kernel) (pa_cons (pv 2) (pa_cons (pe_glob (v := .ref _) rfl T.gx_BadBook rfl) pa_nil)))
      pa_nil)))) (pa_cons pe_int pa_nil)))))
  · refine ⟨rfl, hc, hTT _ _ (fun cls d H' hE σ' => ?_) (fun v H' hq => ?_)⟩
    · obtain ⟨C, bs, rfl, rfl, ⟨b1, b2, b3, eb, tf⟩, hq⟩ := hE
      refine ⟨true, tf.m, fun _ a ha => ⟨C, ⟨rfl, rfl, tf.ex⟩, fun hl => ?_⟩, fun z => nomatch z⟩
      have hl' : σ'.length = 3 := by simpa using hl
      have eb' : bs = [b1, b2, b3] := by
        match bs, eb with
        | [], eb => simp at eb
        | [x0], eb => simp at eb
        | [x0, x1], eb => simp at eb
        | [x0, x1, x2], eb => simpa using eb
        | x0 :: x1 :: x2 :: y :: r, eb => simp at eb
      subst eb'
      match σ', hl' with
      | [x, y, z], _ =>
        refine ⟨.ref a, rfl, ⟨.ref T.Z.C_NoSorts, .ref T.Z.C_NoSorts, b1, rfl, fun u hu => hu, tf.k1, ⟨.ref a, rfl, ⟨.ref T.Z.C_NoSort, .ref T.Z.C_NoSort, b2, rfl, fun u hu => hu, tf.k2, ⟨.ref a, rfl, ⟨.ref T.Z.C_BadBook, .ref T.Z.C_BadBook, b3, rfl, fun u hu => hu, tf.k3, ?_⟩⟩⟩⟩⟩⟩
        exact ⟨(show (3 : Nat) ≤ sizeLine by decide), fun l hll => ⟨(show (3 : Nat) ≤ sizeLine by decide), fun p hp => ⟨.ref p, rfl, hq l p hll hp⟩⟩⟩
    · exact ⟨(show (2 : Nat) ≤ sizeLine by decide), fun p hp => ⟨.ref p, rfl, hq p hp⟩⟩
theorem told_gives' (T : Txt K mg) {X : Cx} (hK : X.K = K) (hm : X.mg = mg) {g : Addr} {cdg : Value} {q : Str} : LamX.GivesTo X ["action", "found", "e"] "_law_told" (defScope s__law_told) g cdg (defBody s__law_told) "action" q (toldTT X.K (tellC K T.Z)) := by
  subst hK
  subst hm
  exact told_gives T
/-- what the law asks of the errors and of the class -/
structure LawF (K : PySem.W.Frag) (Z : CT) : Prop where
  e_NoSorts : TellF K Z Z.C_NoSorts true false false
  w : OkD K (.oth (.ref Z.C_Web))
abbrev s__law_are_sorts_of : Stmt := topS 65
theorem sc__law_are_sorts_of : FnScope ["thing", "vessels", "many", "sort"] ["thing", "vessels", "many"] (defScope s__law_are_sorts_of) := ⟨rfl, rfl, rfl, by decide +kernel, rfl, by decide +kernel, by decide +kernel⟩
def l1__law_are_sorts_of (K : PySem.W.Frag) : SW := wFor (wSeq (wVar 0)) (wName 3) (wIfS (wOr (wNot (wB (wCall 1 (fs__law_integer K) (wcCons (wVar 3) wcNil)))) (wOr (wB (wOp gLtI (wVar 3) (wC (.int 0)))) (wB (wOp gGeI (wVar 3) (wVar 2))))) (wRet (wC (.bl false))) wNext)
def w__law_are_sorts_of (K : PySem.W.Frag) : SW := (wSq (wIfS (wOr (wNot (wB (wCB (gIsi K) (wCons (wVar 0) (wCons (wC (.ty "tuple")) wNil))))) (wB (wOp gNe (wCB gLen (wCons (wVar 0) wNil)) (wVar 1)))) (wRet (wC (.bl false))) wNext)
  (wSq (l1__law_are_sorts_of K)
  (wRet (wC (.bl true)))))
def fs__law_are_sorts_of (K : PySem.W.Frag) : FS := fun cs q _ => ∃ (d : D) (n m : Nat), cs = [.dat d, .dat (.int (n : Nat)), .dat (.int (m : Nat))] ∧ OkD K d ∧ q (.bl (isSf n m d)) cs
theorem l1__law_are_sorts_of_ok {ds : List D} {n : Int} {m : Nat} {c3 : Cell} {E : EndsD} (hd : ∀ x ∈ ds, OkD K x) (hf : ds.all (isBetw 0 ((m : Int) - 1)) = false → ∀ c3, E.rt (.bl false) [.dat (.tup ds), .dat (.int n), .dat (.int (m : Nat)), c3]) (hn : ds.all (isBetw 0 ((m : Int) - 1)) = true → ∀ c3, E.nx [.dat (.tup ds), .dat (.int n), .dat (.int (m : Nat)), c3]) : l1__law_are_sorts_of K E [.dat (.tup ds), .dat (.int n), .dat (.int (m : Nat)), c3] := by
  unfold l1__law_are_sorts_of wFor
  refine ⟨_, rfl, ds, rfl, fun i τ => (∃ c3, τ = [.dat (.tup ds), .dat (.int n), .dat (.int (m : Nat)), c3]) ∧ ∀ j x, j < i → ds[j]? = some x → isBetw 0 ((m : Int) - 1) x = true, ⟨⟨_, rfl⟩, fun j x h => absurd h (by omega)⟩, ?_, ?_⟩
  · rintro i d τ2 hi ⟨⟨c3, rfl⟩, ha⟩
    have ok := hd d (List.mem_of_getElem? hi)
    cases h : isBetw 0 ((m : Int) - 1) d with
    | true =>
      obtain ⟨k, rfl, k0, k1⟩ := betw_int h
      have n1 : ¬ k < 0 := by omega
      have n2 : ¬ (m : Int) ≤ k := by omega
      simp only [fs__law_integer, ok, wAugOwn, wEnumL, wTru, wSlA, gCatA, gLtT, gLeT, wFrz, wChain3, wAttr, wMkF, wEnumT, wRevT, wDict0, wDict1, numD3, Nat.reduceAdd, atI0, atI1, atI2, atI3, atI4, ixN51, ixN52, ixN53, List.length_map, wNever, scal, V.int.injEq, V.str.injEq, V.bl.injEq, wSq, wNext, wBreak, wCont, wDrop, wRet, wRetN, wIfS, wAsg, wPar, wLstOwn, wAppend, wSetOwn, wIxOwn, wPeek, wRetOwn, wRetFr, wFor, wB, wNot, wAnd, wOr, wAndV, wOrV, wNotV, wIf, wChain, wNil, wCons, wCB, wTup, wLst, wNoPart, wPart, wSlT, wSlL, wSeq, wRng1, wRng2, wZip, wName, wNilT, wConsT, wTupT, wYes, wNeg, wVar, wC, wOp, wcNil, wcCons, wcOwn, wCall, wCallOwn, slots, cellsOf, OwnArgs, putBack, g2I, g2IC, gLen, gAbs, gGcd, gInt1, gTupleOf, gListOf, gIx, gCatT, gCat, gEq, gNe, gIsN, gNotN, scD, seqD_t, seqD_l, seqD_f, isNonD, List.nodup_cons, List.mem_cons, List.not_mem_nil, or_false, not_false_eq_true, Nat.reduceEqDiff, L3.Keeps, ends, wipeD, List.replicate, List.cons_append, List.nil_append, List.append_nil, List.getElem?_cons_zero, List.getElem?_cons_succ, List.set_cons_zero, List.set_cons_succ, List.getD_cons_zero, List.getD_cons_succ, List.length_cons, List.length_nil, List.nodup_nil, Option.some.injEq, Cell.dat.injEq, Cell.own.injEq, Cont.lst.injEq, D.bl.injEq, D.int.injEq, D.str.injEq, D.tup.injEq, D.lst.injEq, Arg.d.injEq, List.cons.injEq, exists_and_left, exists_and_right, exists_eq_left', exists_eq_left, exists_eq_right, exists_eq_right', exists_eq, exists_eq', and_true, true_and, and_assoc, and_self, exists_const, reduceCtorEq]
      simp [isIntD, n1, n2]
      intro j x hj e
      by_cases z : j = i
      · subst z
        rw [hi] at e
        cases e
        exact h
      · exact ha j x (by omega) e
    | false =>
      have f : ds.all (isBetw 0 ((m : Int) - 1)) = false := by
        rw [List.all_eq_false]
        exact ⟨d, List.mem_of_getElem? hi, by rw [h]; simp⟩
      have fin := hf f (.dat d)
      simp only [fs__law_integer, ok, wAugOwn, wEnumL, wTru, wSlA, gCatA, gLtT, gLeT, wFrz, wChain3, wAttr, wMkF, wEnumT, wRevT, wDict0, wDict1, numD3, Nat.reduceAdd, atI0, atI1, atI2, atI3, atI4, ixN51, ixN52, ixN53, List.length_map, wNever, scal, V.int.injEq, V.str.injEq, V.bl.injEq, wSq, wNext, wBreak, wCont, wDrop, wRet, wRetN, wIfS, wAsg, wPar, wLstOwn, wAppend, wSetOwn, wIxOwn, wPeek, wRetOwn, wRetFr, wFor, wB, wNot, wAnd, wOr, wAndV, wOrV, wNotV, wIf, wChain, wNil, wCons, wCB, wTup, wLst, wNoPart, wPart, wSlT, wSlL, wSeq, wRng1, wRng2, wZip, wName, wNilT, wConsT, wTupT, wYes, wNeg, wVar, wC, wOp, wcNil, wcCons, wcOwn, wCall, wCallOwn, slots, cellsOf, OwnArgs, putBack, g2I, g2IC, gLen, gAbs, gGcd, gInt1, gTupleOf, gListOf, gIx, gCatT, gCat, gEq, gNe, gIsN, gNotN, scD, seqD_t, seqD_l, seqD_f, isNonD, List.nodup_cons, List.mem_cons, List.not_mem_nil, or_false, not_false_eq_true, Nat.reduceEqDiff, L3.Keeps, ends, wipeD, List.replicate, List.cons_append, List.nil_append, List.append_nil, List.getElem?_cons_zero, List.getElem?_cons_succ, List.set_cons_zero, List.set_cons_succ, List.getD_cons_zero, List.getD_cons_succ, List.length_cons, List.length_nil, List.nodup_nil, Option.some.injEq, Cell.dat.injEq, Cell.own.injEq, Cont.lst.injEq, D.bl.injEq, D.int.injEq, D.str.injEq, D.tup.injEq, D.lst.injEq, Arg.d.injEq, List.cons.injEq, exists_and_left, exists_and_right, exists_eq_left', exists_eq_left, exists_eq_right, exists_eq_right', exists_eq, exists_eq', and_true, true_and, and_assoc, and_self, exists_const, reduceCtorEq]
      cases d <;> simp [isIntD, isBetw] at h ⊢ <;> first | exact fin | skip
      rename_i k
      by_cases z : k < 0
      · have z2 : ¬ 0 ≤ k := by omega
        simp [z, z2]; exact fin
      · have z2 : (m : Int) ≤ k := by omega
        have z3 : ¬ k < (m : Int) := by omega
        have z4 : 0 ≤ k := by omega
        simp [z, z2, z3, z4]; exact fin
  · rintro τ2 ⟨⟨c3, rfl⟩, ha⟩
    refine hn ?_ c3
    rw [List.all_eq_true]
    intro x hx
    obtain ⟨j, hj, rfl⟩ := List.getElem_of_mem hx
    exact ha j _ hj (List.getElem?_eq_getElem hj)
theorem pure__law_are_sorts_of : PureD 3 1 (fs__law_are_sorts_of K) (w__law_are_sorts_of K) := by
  rintro cs q e - ⟨d, n, m, rfl, hd, hq⟩
  simp only [w__law_are_sorts_of, gIsi_iff hd (show "tuple" ∈ kinds by simp), wAugOwn, wEnumL, wTru, wSlA, gCatA, gLtT, gLeT, wFrz, wChain3, wAttr, wMkF, wEnumT, wRevT, wDict0, wDict1, numD3, Nat.reduceAdd, atI0, atI1, atI2, atI3, atI4, ixN51, ixN52, ixN53, List.length_map, wNever, scal, V.int.injEq, V.str.injEq, V.bl.injEq, wSq, wNext, wBreak, wCont, wDrop, wRet, wRetN, wIfS, wAsg, wPar, wLstOwn, wAppend, wSetOwn, wIxOwn, wPeek, wRetOwn, wRetFr, wFor, wB, wNot, wAnd, wOr, wAndV, wOrV, wNotV, wIf, wChain, wNil, wCons, wCB, wTup, wLst, wNoPart, wPart, wSlT, wSlL, wSeq, wRng1, wRng2, wZip, wName, wNilT, wConsT, wTupT, wYes, wNeg, wVar, wC, wOp, wcNil, wcCons, wcOwn, wCall, wCallOwn, slots, cellsOf, OwnArgs, putBack, g2I, g2IC, gLen, gAbs, gGcd, gInt1, gTupleOf, gListOf, gIx, gCatT, gCat, gEq, gNe, gIsN, gNotN, scD, seqD_t, seqD_l, seqD_f, isNonD, List.nodup_cons, List.mem_cons, List.not_mem_nil, or_false, not_false_eq_true, Nat.reduceEqDiff, L3.Keeps, ends, wipeD, List.replicate, List.cons_append, List.nil_append, List.append_nil, List.getElem?_cons_zero, List.getElem?_cons_succ, List.set_cons_zero, List.set_cons_succ, List.getD_cons_zero, List.getD_cons_succ, List.length_cons, List.length_nil, List.nodup_nil, Option.some.injEq, Cell.dat.injEq, Cell.own.injEq, Cont.lst.injEq, D.bl.injEq, D.int.injEq, D.str.injEq, D.tup.injEq, D.lst.injEq, Arg.d.injEq, List.cons.injEq, exists_and_left, exists_and_right, exists_eq_left', exists_eq_left, exists_eq_right, exists_eq_right', exists_eq, exists_eq', and_true, true_and, and_assoc, and_self, exists_const, reduceCtorEq]
  cases d with
  | tup ds =>
    simp only [isiD, wAugOwn, wEnumL, wTru, wSlA, gCatA, gLtT, gLeT, wFrz, wChain3, wAttr, wMkF, wEnumT, wRevT, wDict0, wDict1, numD3, Nat.reduceAdd, atI0, atI1, atI2, atI3, atI4, ixN51, ixN52, ixN53, List.length_map, wNever, scal, V.int.injEq, V.str.injEq, V.bl.injEq, wSq, wNext, wBreak, wCont, wDrop, wRet, wRetN, wIfS, wAsg, wPar, wLstOwn, wAppend, wSetOwn, wIxOwn, wPeek, wRetOwn, wRetFr, wFor, wB, wNot, wAnd, wOr, wAndV, wOrV, wNotV, wIf, wChain, wNil, wCons, wCB, wTup, wLst, wNoPart, wPart, wSlT, wSlL, wSeq, wRng1, wRng2, wZip, wName, wNilT, wConsT, wTupT, wYes, wNeg, wVar, wC, wOp, wcNil, wcCons, wcOwn, wCall, wCallOwn, slots, cellsOf, OwnArgs, putBack, g2I, g2IC, gLen, gAbs, gGcd, gInt1, gTupleOf, gListOf, gIx, gCatT, gCat, gEq, gNe, gIsN, gNotN, scD, seqD_t, seqD_l, seqD_f, isNonD, List.nodup_cons, List.mem_cons, List.not_mem_nil, or_false, not_false_eq_true, Nat.reduceEqDiff, L3.Keeps, ends, wipeD, List.replicate, List.cons_append, List.nil_append, List.append_nil, List.getElem?_cons_zero, List.getElem?_cons_succ, List.set_cons_zero, List.set_cons_succ, List.getD_cons_zero, List.getD_cons_succ, List.length_cons, List.length_nil, List.nodup_nil, Option.some.injEq, Cell.dat.injEq, Cell.own.injEq, Cont.lst.injEq, D.bl.injEq, D.int.injEq, D.str.injEq, D.tup.injEq, D.lst.injEq, Arg.d.injEq, List.cons.injEq, exists_and_left, exists_and_right, exists_eq_left', exists_eq_left, exists_eq_right, exists_eq_right', exists_eq, exists_eq', and_true, true_and, and_assoc, and_self, exists_const, reduceCtorEq]
    by_cases h1 : ds.length = n
    · simp only [isSf, decide_eq_true h1, Bool.true_and] at hq
      have h1' : ((ds.length : Nat) : Int) = (n : Int) := by omega
      simp [h1']
      refine l1__law_are_sorts_of_ok (fun x hx => okTup hd hx) (fun h c3 => ?_) fun h c3 => ?_
      · rw [h] at hq
        simp only [wAugOwn, wEnumL, wTru, wSlA, gCatA, gLtT, gLeT, wFrz, wChain3, wAttr, wMkF, wEnumT, wRevT, wDict0, wDict1, numD3, Nat.reduceAdd, atI0, atI1, atI2, atI3, atI4, ixN51, ixN52, ixN53, List.length_map, wNever, scal, V.int.injEq, V.str.injEq, V.bl.injEq, wSq, wNext, wBreak, wCont, wDrop, wRet, wRetN, wIfS, wAsg, wPar, wLstOwn, wAppend, wSetOwn, wIxOwn, wPeek, wRetOwn, wRetFr, wFor, wB, wNot, wAnd, wOr, wAndV, wOrV, wNotV, wIf, wChain, wNil, wCons, wCB, wTup, wLst, wNoPart, wPart, wSlT, wSlL, wSeq, wRng1, wRng2, wZip, wName, wNilT, wConsT, wTupT, wYes, wNeg, wVar, wC, wOp, wcNil, wcCons, wcOwn, wCall, wCallOwn, slots, cellsOf, OwnArgs, putBack, g2I, g2IC, gLen, gAbs, gGcd, gInt1, gTupleOf, gListOf, gIx, gCatT, gCat, gEq, gNe, gIsN, gNotN, scD, seqD_t, seqD_l, seqD_f, isNonD, List.nodup_cons, List.mem_cons, List.not_mem_nil, or_false, not_false_eq_true, Nat.reduceEqDiff, L3.Keeps, ends, wipeD, List.replicate, List.cons_append, List.nil_append, List.append_nil, List.getElem?_cons_zero, List.getElem?_cons_succ, List.set_cons_zero, List.set_cons_succ, List.getD_cons_zero, List.getD_cons_succ, List.length_cons, List.length_nil, List.nodup_nil, Option.some.injEq, Cell.dat.injEq, Cell.own.injEq, Cont.lst.injEq, D.bl.injEq, D.int.injEq, D.str.injEq, D.tup.injEq, D.lst.injEq, Arg.d.injEq, List.cons.injEq, exists_and_left, exists_and_right, exists_eq_left', exists_eq_left, exists_eq_right, exists_eq_right', exists_eq, exists_eq', and_true, true_and, and_assoc, and_self, exists_const, reduceCtorEq]
        exact hq
      · rw [h] at hq
        simp only [wAugOwn, wEnumL, wTru, wSlA, gCatA, gLtT, gLeT, wFrz, wChain3, wAttr, wMkF, wEnumT, wRevT, wDict0, wDict1, numD3, Nat.reduceAdd, atI0, atI1, atI2, atI3, atI4, ixN51, ixN52, ixN53, List.length_map, wNever, scal, V.int.injEq, V.str.injEq, V.bl.injEq, wSq, wNext, wBreak, wCont, wDrop, wRet, wRetN, wIfS, wAsg, wPar, wLstOwn, wAppend, wSetOwn, wIxOwn, wPeek, wRetOwn, wRetFr, wFor, wB, wNot, wAnd, wOr, wAndV, wOrV, wNotV, wIf, wChain, wNil, wCons, wCB, wTup, wLst, wNoPart, wPart, wSlT, wSlL, wSeq, wRng1, wRng2, wZip, wName, wNilT, wConsT, wTupT, wYes, wNeg, wVar, wC, wOp, wcNil, wcCons, wcOwn, wCall, wCallOwn, slots, cellsOf, OwnArgs, putBack, g2I, g2IC, gLen, gAbs, gGcd, gInt1, gTupleOf, gListOf, gIx, gCatT, gCat, gEq, gNe, gIsN, gNotN, scD, seqD_t, seqD_l, seqD_f, isNonD, List.nodup_cons, List.mem_cons, List.not_mem_nil, or_false, not_false_eq_true, Nat.reduceEqDiff, L3.Keeps, ends, wipeD, List.replicate, List.cons_append, List.nil_append, List.append_nil, List.getElem?_cons_zero, List.getElem?_cons_succ, List.set_cons_zero, List.set_cons_succ, List.getD_cons_zero, List.getD_cons_succ, List.length_cons, List.length_nil, List.nodup_nil, Option.some.injEq, Cell.dat.injEq, Cell.own.injEq, Cont.lst.injEq, D.bl.injEq, D.int.injEq, D.str.injEq, D.tup.injEq, D.lst.injEq, Arg.d.injEq, List.cons.injEq, exists_and_left, exists_and_right, exists_eq_left', exists_eq_left, exists_eq_right, exists_eq_right', exists_eq, exists_eq', and_true, true_and, and_assoc, and_self, exists_const, reduceCtorEq]
        exact hq
    · simp only [isSf, decide_eq_false h1, Bool.false_and] at hq
      have h1' : ¬ ((ds.length : Nat) : Int) = (n : Int) := by omega
      simp [h1', h1]
      exact hq
  | _ =>
    simp only [isiD]
    simpa [isSf] using hq
theorem ok__law_are_sorts_of (T : Txt K mg) : FnOk P w K mg base (L2.CX P w) 2 T.f__law_are_sorts_of T.fd__law_are_sorts_of ["thing", "vessels", "many"] (spOf K 3 (fs__law_are_sorts_of K)) := by
  refine def_ok T.F__law_are_sorts_of sc__law_are_sorts_of (wb := w__law_are_sorts_of K) pure__law_are_sorts_of ?_
  intro cdv A outer s H E hr tk
  exact ⟨_, (pss_cons (ps_if (PW.pt (pw_or (pt_not (pt_val (pe_callB call_isi (by rfl) T.z_isinstance (by decide +kernel) (pa_cons (pv 0) (pa_cons (pe_bltn (v := .ty "tuple") (by rfl) T.z_tuple (by decide +kernel) rfl) pa_nil))))) (pw_or1 (pt_cmpR op_ne (pe_callB call_len_seq (by rfl) T.z_len (by decide +kernel) (pa_cons (pv 0) pa_nil)) (pv 1) (nomark _)))))
        (pss_one (ps_ret pe_bl))
        pss_nil)
      (pss_cons (ps_for (passes_of rfl) rfl (pi_seq (pv 0)) (pg_name (i := 3) sc__law_are_sorts_of.nd rfl (by first | exact Or.inl rfl | exact Or.inr rfl))
        (pss_one (ps_if (PW.pt (pw_or (pt_not (pt_val (pe_callS (ok__law_integer T) (hr.mono (by decide)) rfl T.g__law_integer T.k__law_integer T.b__law_integer (fun σ => passAt tk σ) (pa_cons (pv 3) pa_nil)))) (pw_or (pt_cmpR op_lt (pv 3) pe_int (nomark _)) (pw_or1 (pt_cmpR op_ge (pv 3) (pv 2) (nomark _))))))
        (pss_one (ps_ret pe_bl))
        pss_nil)))
      (pss_one (ps_ret pe_bl)))),
    (ds_seq (ds_if (dt_or (dt_not (dt_B (de_cb o_isi (da_cons (de_var 0) (da_cons de_ty da_nil))))) (dt_B (de_op o_ne (de_cb o_len (da_cons (de_var 0) da_nil)) (de_var 1)))) (ds_ret de_bl) ds_nil)
      (ds_seq (ds_for (wI := (wSeq (wVar 0))) (wg := (wName 3)) (wb := (wIfS (wOr (wNot (wB (wCall 1 (fs__law_integer K) (wcCons (wVar 3) wcNil)))) (wOr (wB (wOp gLtI (wVar 3) (wC (.int 0)))) (wB (wOp gGeI (wVar 3) (wVar 2))))) (wRet (wC (.bl false))) wNext)) (di_seq (de_var 0)) (dg_name 3) (ds_if (dt_or (dt_not (dt_B (de_call (n := 1) (fs := fs__law_integer K) (dac_cons (de_var 3) dac_nil)))) (dt_or (dt_B (de_op o_lt (de_var 3) de_int)) (dt_B (de_op o_ge (de_var 3) (de_var 2))))) (ds_ret de_bl) ds_nil))
      (ds_ret de_bl)))⟩
abbrev s__law_changed : Stmt := topS 66
theorem sc__law_changed : FnScope ["source", "kind", "book", "web", "widths", "pipes", "chosen", "place"] ["source", "kind", "book", "web"] (defScope s__law_changed) := ⟨rfl, rfl, rfl, by decide +kernel, rfl, by decide +kernel, by decide +kernel⟩
def w__law_changed (K : PySem.W.Frag) (Z : CT) : SW := (wSq (wAsg (wVar 3) (wTupT 3 (wConsT (wName 4) (wConsT (wName 5) (wConsT (wName 6) wNilT)))))
  (wSq (wAsg (wCall 2 (fs__law_draw K) (wcOwn 0 (wcCons (wCB gLen (wCons (wVar 4) wNil)) wcNil))) (wName 7))
  (wSq (wIfS (wB (wOp gEq (wVar 1) (wC (.int 0)))) (wRet (wTup (wCons (wCall 3 (fs__law_with K) (wcCons (wVar 4) (wcCons (wVar 7) (wcCons (wCall 2 (fs__law_draw K) (wcOwn 0 (wcCons (wC (.int 4)) wcNil))) wcNil)))) (wCons (wVar 5) (wCons (wVar 6) wNil))))) wNext)
  (wSq (wIfS (wB (wOp gEq (wVar 1) (wC (.int 1)))) (wRet (wTup (wCons (wVar 4) (wCons (wVar 5) (wCons (wCall 3 (fs__law_with K) (wcCons (wVar 6) (wcCons (wVar 7) (wcCons (wCall 2 (fs__law_draw K) (wcOwn 0 (wcCons (wCB gLen (wCons (wOp gIx (wVar 2) (wC (.int 0))) wNil)) wcNil))) wcNil)))) wNil))))) wNext)
  (wSq (wIfS (wB (wOp gEq (wVar 1) (wC (.int 2)))) (wRet (wTup (wCons (wVar 4) (wCons (wVar 5) (wCons (wCall 3 (fs__law_with K) (wcCons (wVar 6) (wcCons (wVar 7) (wcCons (wCall 1 (fs__law_strange K Z) (wcOwn 0 wcNil)) wcNil)))) wNil))))) wNext)
  (wSq (wIfS (wB (wOp gEq (wVar 1) (wC (.int 3)))) (wRet (wTup (wCons (wVar 4) (wCons (wVar 5) (wCons (wCall 1 (fs__law_strange K Z) (wcOwn 0 wcNil)) wNil))))) wNext)
  (wSq (wIfS (wB (wOp gEq (wVar 1) (wC (.int 4)))) (wRet (wTup (wCons (wVar 4) (wCons (wVar 5) (wCons (wOp gCatA (wVar 6) (wTup (wCons (wC (.int 0)) wNil))) wNil))))) wNext)
  (wSq (wIfS (wB (wOp gEq (wVar 1) (wC (.int 5)))) (wRet (wTup (wCons (wVar 4) (wCons (wVar 5) (wCons (wCB gListOf (wCons (wVar 6) wNil)) wNil))))) wNext)
  (wSq (wIfS (wB (wOp gEq (wVar 1) (wC (.int 6)))) (wRet (wTup (wCons (wVar 4) (wCons (wVar 5) (wCons (wCall 3 (fs__law_with K) (wcCons (wVar 6) (wcCons (wVar 7) (wcCons (wCB gLen (wCons (wOp gIx (wVar 2) (wC (.int 0))) wNil)) wcNil)))) wNil))))) wNext)
  (wSq (wIfS (wB (wOp gGtI (wCB gLen (wCons (wVar 5) wNil)) (wC (.int 0)))) (wSq (wAsg (wCall 2 (fs__law_draw K) (wcOwn 0 (wcCons (wCB gLen (wCons (wVar 5) wNil)) wcNil))) (wName 7))
  (wSq (wIfS (wB (wOp gEq (wVar 1) (wC (.int 7)))) (wRet (wTup (wCons (wVar 4) (wCons (wCall 3 (fs__law_with K) (wcCons (wVar 5) (wcCons (wVar 7) (wcCons (wCall 3 (fs__law_with K) (wcCons (wOp gIx (wVar 5) (wVar 7)) (wcCons (wC (.int 2)) (wcCons (wCall 3 (fs__law_steps K) (wcOwn 0 (wcCons (wC (.int 2)) (wcCons (wC (.bl false)) wcNil)))) wcNil)))) wcNil)))) (wCons (wVar 6) wNil))))) wNext)
  (wIfS (wB (wOp gEq (wVar 1) (wC (.int 8)))) (wRet (wTup (wCons (wVar 4) (wCons (wCall 3 (fs__law_with K) (wcCons (wVar 5) (wcCons (wVar 7) (wcCons (wCall 4 (fs__law_pipe K) (wcOwn 0 (wcCons (wCB gLen (wCons (wVar 4) wNil)) (wcCons (wC (.int 2)) (wcCons (wC (.bl false)) wcNil))))) wcNil)))) (wCons (wVar 6) wNil))))) wNext))) wNext)
  (wRet (wVar 3))))))))))))
theorem tup_okd {ds : List D} (h : ∀ d ∈ ds, OkD K d) : OkD K (.tup ds) := by unfold OkD; exact okDs_of h
theorem lst_okd {ds : List D} (h : ∀ d ∈ ds, OkD K d) : OkD K (.lst ds) := by unfold OkD; exact okDs_of h
theorem int_okd (i : Int) : OkD K (.int i) := by simp [OkD]
theorem so_okd {n m : Nat} {so : List D} (h : SoV n m so) : ∀ d ∈ so, OkD K d := fun d hd => by
  obtain ⟨s, rfl, _, _⟩ := betw_int (h.2 d hd)
  exact int_okd s
theorem set_okd {ds : List D} {i : Nat} {x : D} (h : ∀ d ∈ ds, OkD K d) (hx : OkD K x) : OkD K (.tup (ds.set i x)) := tup_okd fun d hd => by
  rcases List.mem_or_eq_of_mem_set hd with hd | rfl
  · exact h d hd
  · exact hx
theorem webV_w {us ds : List D} {i : Nat} {n : Int} (h : WebV us ds) (n0 : 0 ≤ n) (n1 : n < 4) : WebV (us.set i (.int n)) ds := by
  obtain ⟨⟨h1, h2, h3⟩, h4, h5⟩ := h
  refine ⟨⟨by rw [List.length_set]; exact h1, by rw [List.length_set]; exact h2, fun d hd => ?_⟩, h4, by rw [List.length_set]; exact h5⟩
  rcases List.mem_or_eq_of_mem_set hd with hd | rfl
  · exact h3 d hd
  · simp only [isBetw, Bool.and_eq_true, decide_eq_true_eq]
    omega
theorem webV_p {us ds : List D} {i : Nat} {x : D} (h : WebV us ds) (hx : isPi us.length x = true) : WebV us (ds.set i x) := by
  obtain ⟨h1, h4, h5⟩ := h
  refine ⟨h1, by rw [List.length_set]; exact h4, fun d hd => ?_⟩
  rcases List.mem_or_eq_of_mem_set hd with hd | rfl
  · exact h5 d hd
  · exact hx
theorem webV_two {us ds : List D} (h : WebV us ds) (hl : 0 < ds.length) : 2 ≤ us.length := by
  obtain ⟨_, _, h5⟩ := h
  obtain ⟨a, b, l, _, h1, h2, h3, _⟩ := pi_shape (h5 _ (List.getElem_mem hl))
  omega
def fs__law_changed (K : PySem.W.Frag) (Z : CT) : FS := fun cs q _ => ∃ (p : Addr) (c : Cont) (k : Int) (ss ks us ds so : List D), cs = [.own p c, .dat (.int k), .dat (bkD ss ks), .dat (wbD us ds (.tup so))] ∧ SrcC c ∧ 1 ≤ ss.length ∧ ss.length ≤ 4 ∧ WebV us ds ∧ SoV us.length ss.length so ∧ OkD K (.oth (.ref Z.C_Web)) ∧
  ∀ (c' : Cont) (us' ds' : List D) (y : D), SrcC c' → WebV us' ds' → OkD K y → q (wbD us' ds' y) [.own p c', .dat (.int k), .dat (bkD ss ks), .dat (wbD us ds (.tup so))]
theorem pure__law_changed {Z : CT} : PureD 4 4 (fs__law_changed K Z) (w__law_changed K Z) := by
  rintro cs q e - ⟨p, c, k, ss, ks, us, ds, so, rfl, hc, s1, s4, hw, hs, ho, hq⟩
  have u1 := hw.1.1
  have u2 := hw.1.2.1
  have d36 := hw.2.1
  have sok : ∀ d ∈ so, OkD K d := so_okd hs
  have soT : OkD K (.tup so) := tup_okd sok
  have sl := hs.1
  simp only [w__law_changed, fs__law_draw, fs__law_with, fs__law_strange, fs__law_steps, fs__law_pipe, wbD, bkD, seqD_t, seqD_l, wAugOwn, wEnumL, wTru, wSlA, gCatA, gLtT, gLeT, wFrz, wChain3, wAttr, wMkF, wEnumT, wRevT, wDict0, wDict1, numD3, Nat.reduceAdd, atI0, atI1, atI2, atI3, atI4, ixN51, ixN52, ixN53, List.length_map, wNever, scal, V.int.injEq, V.str.injEq, V.bl.injEq, wSq, wNext, wBreak, wCont, wDrop, wRet, wRetN, wIfS, wAsg, wPar, wLstOwn, wAppend, wSetOwn, wIxOwn, wPeek, wRetOwn, wRetFr, wFor, wB, wNot, wAnd, wOr, wAndV, wOrV, wNotV, wIf, wChain, wNil, wCons, wCB, wTup, wLst, wNoPart, wPart, wSlT, wSlL, wSeq, wRng1, wRng2, wZip, wName, wNilT, wConsT, wTupT, wYes, wNeg, wVar, wC, wOp, wcNil, wcCons, wcOwn, wCall, wCallOwn, slots, cellsOf, OwnArgs, putBack, g2I, g2IC, gLen, gAbs, gGcd, gInt1, gTupleOf, gListOf, gIx, gCatT, gCat, gEq, gNe, gIsN, gNotN, scD, seqD_t, seqD_l, seqD_f, isNonD, List.nodup_cons, List.mem_cons, List.not_mem_nil, or_false, not_false_eq_true, Nat.reduceEqDiff, L3.Keeps, ends, wipeD, List.replicate, List.cons_append, List.nil_append, List.append_nil, List.getElem?_cons_zero, List.getElem?_cons_succ, List.set_cons_zero, List.set_cons_succ, List.getD_cons_zero, List.getD_cons_succ, List.length_cons, List.length_nil, List.nodup_nil, Option.some.injEq, Cell.dat.injEq, Cell.own.injEq, Cont.lst.injEq, D.bl.injEq, D.int.injEq, D.str.injEq, D.tup.injEq, D.lst.injEq, Arg.d.injEq, List.cons.injEq, exists_and_left, exists_and_right, exists_eq_left', exists_eq_left, exists_eq_right, exists_eq_right', exists_eq, exists_eq', and_true, true_and, and_assoc, and_self, exists_const, reduceCtorEq]
  refine ⟨hc, by omega, by omega, fun c1 n hc1 n0 n1 => ⟨fun _ => ⟨hc1, by decide, by decide, fun c2 m hc2 m0 m1 => ⟨n0, n1, by omega, by decide, hq c2 _ ds (.tup so) hc2 (webV_w hw m0 m1) soT⟩⟩,
    fun _ => ⟨fun _ => ⟨hc1, by omega, by omega, fun c2 m hc2 m0 m1 => ⟨n0, by omega, by omega, by decide, hq c2 us ds _ hc2 hw (set_okd sok (int_okd m))⟩⟩,
    fun _ => ⟨fun _ => ⟨hc1, ho, fun c2 x hc2 hx => ⟨n0, by omega, by omega, by decide, hq c2 us ds _ hc2 hw (set_okd sok hx)⟩⟩,
    fun _ => ⟨fun _ => ⟨hc1, ho, fun c2 x hc2 hx => ⟨by decide, hq c2 us ds _ hc2 hw hx⟩⟩,
    fun _ => ⟨fun _ => ⟨by decide, by omega, by decide, hq c1 us ds _ hc1 hw (tup_okd (all_snoc sok (int_okd 0)))⟩,
    fun _ => ⟨fun _ => ⟨by decide, hq c1 us ds _ hc1 hw (lst_okd sok)⟩,
    fun _ => ⟨fun _ => ⟨n0, by omega, by omega, by decide, hq c1 us ds _ hc1 hw (set_okd sok (int_okd _))⟩,
    fun _ => ⟨fun z => ⟨hc1, of_decide_eq_true z, by omega, fun c2 k2 hc2 a0 a1 => ⟨fun _ => ?_,
      fun _ => ⟨fun _ => ⟨hc2, by have := webV_two hw (by omega); omega, by omega, by decide, by decide, fun c3 x hc3 hx => ⟨a0, a1, by omega, by decide, hq c3 us _ _ hc3 (webV_p hw (pipD_pi hx)) soT⟩⟩,
      fun _ => hq c2 us ds _ hc2 hw soT⟩⟩⟩, fun _ => hq c1 us ds _ hc1 hw soT⟩⟩⟩⟩⟩⟩⟩⟩⟩
  obtain ⟨j, rfl⟩ := Int.eq_ofNat_of_zero_le a0
  have jl : j < ds.length := by omega
  obtain ⟨a, b, l, e1, x0, x1, x2, x3⟩ := pi_shape (hw.2.2 _ (List.getElem_mem jl))
  refine ⟨ds[j], atI_nat' (List.getElem?_eq_getElem jl), hc2, by decide, by decide, fun c3 es hc3 _ hs3 => ⟨_, e1, by decide, by simp, by simp, a0, a1, by omega, by decide, hq c3 us _ _ hc3 (webV_p hw ?_) soT⟩⟩
  show isPi us.length (.tup [.int a, .int b, .tup es]) = true
  simp only [isPi, isBetw, stepsD_li hs3, Bool.and_eq_true, decide_eq_true_eq, and_true]
  omega
theorem ok__law_changed (T : Txt K mg) : FnOk P w K mg base (L2.CX P w) 9 T.f__law_changed T.fd__law_changed ["source", "kind", "book", "web"] (spOf K 4 (fs__law_changed K T.Z)) := by
  refine def_ok T.F__law_changed sc__law_changed (wb := w__law_changed K T.Z) pure__law_changed ?_
  intro cdv A outer s H E hr tk
  exact ⟨_, (pss_cons (ps_asg (pv 3) (pg_tup (by rfl) (pgs_cons (pg_name (i := 4) sc__law_changed.nd rfl (by first | exact Or.inl rfl | exact Or.inr rfl)) (pgs_cons (pg_name (i := 5) sc__law_changed.nd rfl (by first | exact Or.inl rfl | exact Or.inr rfl)) (pgs_cons (pg_name (i := 6) sc__law_changed.nd rfl (by first | exact Or.inl rfl | exact Or.inr rfl)) pgs_nil)))))
      (pss_cons (ps_set (i := 7) sc__law_changed.nd rfl (by first | exact Or.inl rfl | exact Or.inr rfl) (pe_callS (ok__law_draw T) (hr.mono (by decide)) rfl T.g__law_draw T.k__law_draw T.b__law_draw (fun σ => passAt tk σ) (pa_cons (pv 0) (pa_cons (pe_callB call_len_seq (by rfl) T.z_len (by decide +kernel) (pa_cons (pv 4) pa_nil)) pa_nil))))
      (pss_cons (ps_if (pt_cmpR op_eq (pv 1) pe_int (nomark _))
        (pss_one (ps_ret (pe_tup (pa_cons (pe_callS (ok__law_with T) (hr.mono (by decide)) rfl T.g__law_with T.k__law_with T.b__law_with (fun σ => passAt tk σ) (pa_cons (pv 4) (pa_cons (pv 7) (pa_cons (pe_callS (ok__law_draw T) (hr.mono (by decide)) rfl T.g__law_draw T.k__law_draw T.b__law_draw (fun σ => passAt tk σ) (pa_cons (pv 0) (pa_cons pe_int pa_nil))) pa_nil)))) (pa_cons (pv 5) (pa_cons (pv 6) pa_nil))))))
        pss_nil)
      (pss_cons (ps_if (pt_cmpR op_eq (pv 1) pe_int (nomark _))
        (pss_one (ps_ret (pe_tup (pa_cons (pv 4) (pa_cons (pv 5) (pa_cons (pe_callS (ok__law_with T) (hr.mono (by decide)) rfl T.g__law_with T.k__law_with T.b__law_with (fun σ => passAt tk σ) (pa_cons (pv 6) (pa_cons (pv 7) (pa_cons (pe_callS (ok__law_draw T) (hr.mono (by decide)) rfl T.g__law_draw T.k__law_draw T.b__law_draw (fun σ => passAt tk σ) (pa_cons (pv 0) (pa_cons (pe_callB call_len_seq (by rfl) T.z_len (by decide +kernel) (pa_cons (pe_ix ix_seq (pv 2) pe_int (fun _ _ => rfl)) pa_nil)) pa_nil))) pa_nil)))) pa_nil))))))
        pss_nil)
      (pss_cons (ps_if (pt_cmpR op_eq (pv 1) pe_int (nomark _))
        (pss_one (ps_ret (pe_tup (pa_cons (pv 4) (pa_cons (pv 5) (pa_cons (pe_callS (ok__law_with T) (hr.mono (by decide)) rfl T.g__law_with T.k__law_with T.b__law_with (fun σ => passAt tk σ) (pa_cons (pv 6) (pa_cons (pv 7) (pa_cons (pe_callS (ok__law_strange T) (hr.mono (by decide)) rfl T.g__law_strange T.k__law_strange T.b__law_strange (fun σ => passAt tk σ) (pa_cons (pv 0) pa_nil)) pa_nil)))) pa_nil))))))
        pss_nil)
      (pss_cons (ps_if (pt_cmpR op_eq (pv 1) pe_int (nomark _))
        (pss_one (ps_ret (pe_tup (pa_cons (pv 4) (pa_cons (pv 5) (pa_cons (pe_callS (ok__law_strange T) (hr.mono (by decide)) rfl T.g__law_strange T.k__law_strange T.b__law_strange (fun σ => passAt tk σ) (pa_cons (pv 0) pa_nil)) pa_nil))))))
        pss_nil)
      (pss_cons (ps_if (pt_cmpR op_eq (pv 1) pe_int (nomark _))
        (pss_one (ps_ret (pe_tup (pa_cons (pv 4) (pa_cons (pv 5) (pa_cons (pe_op op_catA (pv 6) (pe_tup (pa_cons pe_int pa_nil))) pa_nil))))))
        pss_nil)
      (pss_cons (ps_if (pt_cmpR op_eq (pv 1) pe_int (nomark _))
        (pss_one (ps_ret (pe_tup (pa_cons (pv 4) (pa_cons (pv 5) (pa_cons (pe_callTy call_list_of (by rfl) T.z_list (by decide +kernel) (pa_cons (pv 6) pa_nil)) pa_nil))))))
        pss_nil)
      (pss_cons (ps_if (pt_cmpR op_eq (pv 1) pe_int (nomark _))
        (pss_one (ps_ret (pe_tup (pa_cons (pv 4) (pa_cons (pv 5) (pa_cons (pe_callS (ok__law_with T) (hr.mono (by decide)) rfl T.g__law_with T.k__law_with T.b__law_with (fun σ => passAt tk σ) (pa_cons (pv 6) (pa_cons (pv 7) (pa_cons (pe_callB call_len_seq (by rfl) T.z_len (by decide +kernel) (pa_cons (pe_ix ix_seq (pv 2) pe_int (fun _ _ => rfl)) pa_nil)) pa_nil)))) pa_nil))))))
        pss_nil)
      (pss_cons (ps_if (pt_cmpR op_gt (pe_callB call_len_seq (by rfl) T.z_len (by decide +kernel) (pa_cons (pv 5) pa_nil)) pe_int (nomark _))
        (pss_cons (ps_set (i := 7) sc__law_changed.nd rfl (by first | exact Or.inl rfl | exact Or.inr rfl) (pe_callS (ok__law_draw T) (hr.mono (by decide)) rfl T.g__law_draw T.k__law_draw T.b__law_draw (fun σ => passAt tk σ) (pa_cons (pv 0) (pa_cons (pe_callB call_len_seq (by rfl) T.z_len (by decide +kernel) (pa_cons (pv 5) pa_nil)) pa_nil))))
      (pss_cons (ps_if (pt_cmpR op_eq (pv 1) pe_int (nomark _))
        (pss_one (ps_ret (pe_tup (pa_cons (pv 4) (pa_cons (pe_callS (ok__law_with T) (hr.mono (by decide)) rfl T.g__law_with T.k__law_with T.b__law_with (fun σ => passAt tk σ) (pa_cons (pv 5) (pa_cons (pv 7) (pa_cons (pe_callS (ok__law_with T) (hr.mono (by decide)) rfl T.g__law_with T.k__law_with T.b__law_with (fun σ => passAt tk σ) (pa_cons (pe_ix ix_seq (pv 5) (pv 7) (fun _ _ => rfl)) (pa_cons pe_int (pa_cons (pe_callS (ok__law_steps T) (hr.mono (by decide)) rfl T.g__law_steps T.k__law_steps T.b__law_steps (fun σ => passAt tk σ) (pa_cons (pv 0) (pa_cons pe_int (pa_cons pe_bl pa_nil)))) pa_nil)))) pa_nil)))) (pa_cons (pv 6) pa_nil))))))
        pss_nil)
      (pss_one (ps_if (pt_cmpR op_eq (pv 1) pe_int (nomark _))
        (pss_one (ps_ret (pe_tup (pa_cons (pv 4) (pa_cons (pe_callS (ok__law_with T) (hr.mono (by decide)) rfl T.g__law_with T.k__law_with T.b__law_with (fun σ => passAt tk σ) (pa_cons (pv 5) (pa_cons (pv 7) (pa_cons (pe_callS (ok__law_pipe T) (hr.mono (by decide)) rfl T.g__law_pipe T.k__law_pipe T.b__law_pipe (fun σ => passAt tk σ) (pa_cons (pv 0) (pa_cons (pe_callB call_len_seq (by rfl) T.z_len (by decide +kernel) (pa_cons (pv 4) pa_nil)) (pa_cons pe_int (pa_cons pe_bl pa_nil))))) pa_nil)))) (pa_cons (pv 6) pa_nil))))))
        pss_nil))))
        pss_nil)
      (pss_one (ps_ret (pv 3))))))))))))),
    (ds_seq (ds_asg (de_var 3) (dg_tup (n := 3) (dgs_cons (dg_name 4) (dgs_cons (dg_name 5) (dgs_cons (dg_name 6) dgs_nil)))))
      (ds_seq (ds_asg (de_call (n := 2) (fs := fs__law_draw K) (dac_own (j := 0) (dac_cons (de_cb o_len (da_cons (de_var 4) da_nil)) dac_nil))) (dg_name 7))
      (ds_seq (ds_if (dt_B (de_op o_eq (de_var 1) de_int)) (ds_ret (de_tup (da_cons (de_call (n := 3) (fs := fs__law_with K) (dac_cons (de_var 4) (dac_cons (de_var 7) (dac_cons (de_call (n := 2) (fs := fs__law_draw K) (dac_own (j := 0) (dac_cons de_int dac_nil))) dac_nil)))) (da_cons (de_var 5) (da_cons (de_var 6) da_nil))))) ds_nil)
      (ds_seq (ds_if (dt_B (de_op o_eq (de_var 1) de_int)) (ds_ret (de_tup (da_cons (de_var 4) (da_cons (de_var 5) (da_cons (de_call (n := 3) (fs := fs__law_with K) (dac_cons (de_var 6) (dac_cons (de_var 7) (dac_cons (de_call (n := 2) (fs := fs__law_draw K) (dac_own (j := 0) (dac_cons (de_cb o_len (da_cons (de_op o_ix (de_var 2) de_int) da_nil)) dac_nil))) dac_nil)))) da_nil))))) ds_nil)
      (ds_seq (ds_if (dt_B (de_op o_eq (de_var 1) de_int)) (ds_ret (de_tup (da_cons (de_var 4) (da_cons (de_var 5) (da_cons (de_call (n := 3) (fs := fs__law_with K) (dac_cons (de_var 6) (dac_cons (de_var 7) (dac_cons (de_call (n := 1) (fs := fs__law_strange K T.Z) (dac_own (j := 0) dac_nil)) dac_nil)))) da_nil))))) ds_nil)
      (ds_seq (ds_if (dt_B (de_op o_eq (de_var 1) de_int)) (ds_ret (de_tup (da_cons (de_var 4) (da_cons (de_var 5) (da_cons (de_call (n := 1) (fs := fs__law_strange K T.Z) (dac_own (j := 0) dac_nil)) da_nil))))) ds_nil)
      (ds_seq (ds_if (dt_B (de_op o_eq (de_var 1) de_int)) (ds_ret (de_tup (da_cons (de_var 4) (da_cons (de_var 5) (da_cons (de_op o_catA (de_var 6) (de_tup (da_cons de_int da_nil))) da_nil))))) ds_nil)
      (ds_seq (ds_if (dt_B (de_op o_eq (de_var 1) de_int)) (ds_ret (de_tup (da_cons (de_var 4) (da_cons (de_var 5) (da_cons (de_cb o_listOf (da_cons (de_var 6) da_nil)) da_nil))))) ds_nil)
      (ds_seq (ds_if (dt_B (de_op o_eq (de_var 1) de_int)) (ds_ret (de_tup (da_cons (de_var 4) (da_cons (de_var 5) (da_cons (de_call (n := 3) (fs := fs__law_with K) (dac_cons (de_var 6) (dac_cons (de_var 7) (dac_cons (de_cb o_len (da_cons (de_op o_ix (de_var 2) de_int) da_nil)) dac_nil)))) da_nil))))) ds_nil)
      (ds_seq (ds_if (dt_B (de_op o_gt (de_cb o_len (da_cons (de_var 5) da_nil)) de_int)) (ds_seq (ds_asg (de_call (n := 2) (fs := fs__law_draw K) (dac_own (j := 0) (dac_cons (de_cb o_len (da_cons (de_var 5) da_nil)) dac_nil))) (dg_name 7))
      (ds_seq (ds_if (dt_B (de_op o_eq (de_var 1) de_int)) (ds_ret (de_tup (da_cons (de_var 4) (da_cons (de_call (n := 3) (fs := fs__law_with K) (dac_cons (de_var 5) (dac_cons (de_var 7) (dac_cons (de_call (n := 3) (fs := fs__law_with K) (dac_cons (de_op o_ix (de_var 5) (de_var 7)) (dac_cons de_int (dac_cons (de_call (n := 3) (fs := fs__law_steps K) (dac_own (j := 0) (dac_cons de_int (dac_cons de_bl dac_nil)))) dac_nil)))) dac_nil)))) (da_cons (de_var 6) da_nil))))) ds_nil)
      (ds_if (dt_B (de_op o_eq (de_var 1) de_int)) (ds_ret (de_tup (da_cons (de_var 4) (da_cons (de_call (n := 3) (fs := fs__law_with K) (dac_cons (de_var 5) (dac_cons (de_var 7) (dac_cons (de_call (n := 4) (fs := fs__law_pipe K) (dac_own (j := 0) (dac_cons (de_cb o_len (da_cons (de_var 4) da_nil)) (dac_cons de_int (dac_cons de_bl dac_nil))))) dac_nil)))) (da_cons (de_var 6) da_nil))))) ds_nil))) ds_nil)
      (ds_ret (de_var 3))))))))))))⟩
abbrev s_law : Stmt := topS 67
theorem sc_law : FnScope ["script", "source", "kind", "wide", "sorts", "book", "web", "due"] ["script"] (defScope s_law) := ⟨rfl, rfl, rfl, by decide +kernel, rfl, by decide +kernel, by decide +kernel⟩
def t10_law (K : PySem.W.Frag) (Z : CT) : SW := (wRet (wCall 2 (fs__law_met K) (wcCons (wTold (tellC K Z) (wCall 3 (fs_fault K Z) (wcCons (wMkI Z.C_Book 2 (fs_Book__init__ K Z) (wCons (wVar 4) (wCons (wOp gIx (wVar 5) (wC (.int 1))) wNil))) (wcCons (wMkI Z.C_Web 2 (fs_Web__init__ K Z) (wCons (wOp gIx (wVar 6) (wC (.int 0))) (wCons (wOp gIx (wVar 6) (wC (.int 1))) wNil))) (wcCons (wOp gIx (wVar 6) (wC (.int 2))) wcNil))))) (wcCons (wVar 7) wcNil))))
def t9_law (K : PySem.W.Frag) (Z : CT) : SW := (wSq (wIfS (wB (wCall 3 (fs__law_are_sorts_of K) (wcCons (wOp gIx (wVar 6) (wC (.int 2))) (wcCons (wCB gLen (wCons (wOp gIx (wVar 6) (wC (.int 0))) wNil)) (wcCons (wCB gLen (wCons (wVar 4) wNil)) wcNil))))) (wAsg (wTup (wCons (wC (.str "told")) (wCons (wCall 3 (fs__law_fault K) (wcCons (wVar 5) (wcCons (wVar 6) (wcCons (wOp gIx (wVar 6) (wC (.int 2))) wcNil)))) wNil))) (wName 7)) (wAsg (wTup (wCons (wC (.str "refused")) (wCons (wLst (wCons (wC (.bl true)) (wCons (wC (.bl false)) (wCons (wC (.bl false)) wNil)))) (wCons (wC (.int 0)) wNil)))) (wName 7)))
  (t10_law K Z))
def t8_law (K : PySem.W.Frag) (Z : CT) : SW := (wSq (wIfS (wB (wOp gLtI (wVar 2) (wC (.int 9)))) (wAsg (wCall 4 (fs__law_changed K Z) (wcOwn 1 (wcCons (wVar 2) (wcCons (wVar 5) (wcCons (wVar 6) wcNil))))) (wName 6)) wNext)
  (t9_law K Z))
def t7_law (K : PySem.W.Frag) (Z : CT) : SW := (wSq (wIfS (wNot (wB (wCall 2 (fs__law_met K) (wcCons (wTold (tellC K Z) (wCall 3 (fs_fault K Z) (wcCons (wMkI Z.C_Book 2 (fs_Book__init__ K Z) (wCons (wVar 4) (wCons (wOp gIx (wVar 5) (wC (.int 1))) wNil))) (wcCons (wMkI Z.C_Web 2 (fs_Web__init__ K Z) (wCons (wOp gIx (wVar 6) (wC (.int 0))) (wCons (wOp gIx (wVar 6) (wC (.int 1))) wNil))) (wcCons (wOp gIx (wVar 6) (wC (.int 2))) wcNil))))) (wcCons (wVar 7) wcNil))))) (wRet (wC (.bl false))) wNext)
  (t8_law K Z))
def t6_law (K : PySem.W.Frag) (Z : CT) : SW := (wSq (wAsg (wTup (wCons (wC (.str "told")) (wCons (wCall 3 (fs__law_fault K) (wcCons (wVar 5) (wcCons (wVar 6) (wcCons (wOp gIx (wVar 6) (wC (.int 2))) wcNil)))) wNil))) (wName 7))
  (t7_law K Z))
def t5_law (K : PySem.W.Frag) (Z : CT) : SW := (wSq (wAsg (wCall 5 (fs__law_woven K) (wcOwn 1 (wcCons (wVar 4) (wcCons (wOp gIx (wVar 5) (wC (.int 1))) (wcCons (wOp gAddI (wC (.int 1)) (wCall 2 (fs__law_draw K) (wcOwn 1 (wcCons (wC (.int 8)) wcNil)))) (wcCons (wCall 2 (fs__law_draw K) (wcOwn 1 (wcCons (wC (.int 13)) wcNil))) wcNil)))))) (wName 6))
  (t6_law K Z))
def w_law (K : PySem.W.Frag) (Z : CT) : SW := (wSq (wCallOwn 1 1 (fs__law_source K) (wcCons (wVar 0) wcNil))
  (wSq (wAsg (wCall 2 (fs__law_draw K) (wcOwn 1 (wcCons (wC (.int 13)) wcNil))) (wName 2))
  (wSq (wAsg (wOp gEq (wCall 2 (fs__law_draw K) (wcOwn 1 (wcCons (wC (.int 2)) wcNil))) (wC (.int 0))) (wName 3))
  (wSq (wAsg (wCall 3 (fs__law_sorts K) (wcOwn 1 (wcCons (wOp gAddI (wC (.int 1)) (wCall 2 (fs__law_draw K) (wcOwn 1 (wcCons (wC (.int 4)) wcNil)))) (wcCons (wVar 3) wcNil)))) (wName 4))
  (wSq (wAsg (wTup (wCons (wVar 4) (wCons (wCall 4 (fs__law_kinds K) (wcOwn 1 (wcCons (wVar 4) (wcCons (wOp gAddI (wC (.int 1)) (wCall 2 (fs__law_draw K) (wcOwn 1 (wcCons (wC (.int 5)) wcNil)))) (wcCons (wVar 3) wcNil))))) wNil))) (wName 5))
  (t5_law K Z))))))
abbrev lamQ : Str := (envOfC "law" (defScope s_law) 0 0 .none).qual ++ Str.ofString "<lambda>"
def fs_law (K : PySem.W.Frag) (Z : CT) : FS := fun cs q _ => ∃ (ns : List Int), cs = [.dat (.fl (ns.map D.int))] ∧ ns.length ≤ 1000 ∧ LawF K Z ∧ q (.bl true) cs
theorem firstBad_all {n : Int} : ∀ {ds : List D} {k : Nat}, (∀ d ∈ ds, isPi n d = true) → firstBad n k ds = none
  | [], _, _ => rfl
  | x :: r, k, h => by
    unfold firstBad
    rw [if_pos (h x (by simp))]
    exact firstBad_all fun d hd => h d (by simp [hd])
theorem firstBadP_all {P : D → Bool} : ∀ {ds : List D} {k : Nat}, (∀ d ∈ ds, P d = true) → firstBadP P k ds = none
  | [], _, _ => rfl
  | x :: r, k, h => by
    unfold firstBadP
    rw [if_pos (h x (by simp))]
    exact firstBadP_all fun d hd => h d (by simp [hd])
theorem book_ok {ss ks : List D} (h : BookV ss ks) : badBook (.tup ss) (.tup ks) = none := by
  obtain ⟨⟨s1, s4, s3, sea⟩, k5, hk⟩ := h
  have g1 : isSs (.tup ss) = true := by
    simp only [isSs, isTupOf, Bool.and_eq_true, decide_eq_true_eq, List.all_eq_true]
    exact ⟨⟨⟨by omega, by omega⟩, s3⟩, by omega⟩
  have g2 : isTupOf 0 5 (.tup ks) = true := by
    simp only [isTupOf, Bool.and_eq_true, decide_eq_true_eq]
    omega
  simp only [badBook, g1, g2, Bool.true_eq_false, if_false, firstBadP_all hk, Option.map_none]
theorem web_ok {us ds : List D} (h : WebV us ds) : badWeb (.tup us) (.tup ds) = none := by
  obtain ⟨⟨u1, u2, u3⟩, d4, hd⟩ := h
  have g1 : isWs (.tup us) = true := by
    simp only [isWs, isTupOf, Bool.and_eq_true, decide_eq_true_eq, List.all_eq_true]
    refine ⟨?_, u3⟩
    omega
  have g2 : isTupOf 0 36 (.tup ds) = true := by
    simp only [isTupOf, Bool.and_eq_true, decide_eq_true_eq]
    omega
  simp only [badWeb, g1, g2, Bool.true_eq_false, if_false, firstBad_all hd, Option.map_none]
theorem ft_same {s : String} {k : Nat} (h : SeqAt.shaped (.str (Str.ofString s)) = true) : SameD 3 (ftD s k) := by
  refine ⟨(show (2 : Nat) ≤ 1000 by decide), fun d hd => ?_⟩
  have : d = .str s ∨ d = .int (k : Nat) := by simpa using hd
  rcases this with rfl | rfl
  · exact h
  · trivial
theorem fault_same {ss ks us ds so : List D} : SameD 3 (faultS ss ks us ds so) := by
  unfold faultS
  repeat' split
  · exact ft_same (by decide +kernel)
  · exact ft_same (by decide +kernel)
  · exact ft_same (by decide +kernel)
  · trivial
theorem th_okd {d : D} (h : isTh d = true) : OkD K d := by
  obtain ⟨t, b, rfl, _⟩ := th_shape h
  exact tup_okd fun x hx => by
    have : x = .int t ∨ x = .int b := by simpa using hx
    rcases this with rfl | rfl <;> exact int_okd _
theorem li_okd {d : D} (h : isLi d = true) : OkD K d := by
  obtain ⟨es, rfl, _, _, h3⟩ := li_shape h
  exact tup_okd fun x hx => th_okd (h3 x hx)
theorem pi_okd {n : Int} {d : D} (h : isPi n d = true) : OkD K d := by
  obtain ⟨a, b, l, rfl, _, _, _, hl⟩ := pi_shape h
  exact tup_okd fun x hx => by
    have : x = .int a ∨ x = .int b ∨ x = l := by simpa using hx
    rcases this with rfl | rfl | rfl
    · exact int_okd _
    · exact int_okd _
    · exact li_okd hl
theorem web_okd {us ds : List D} (h : WebV us ds) : OkD K (.tup us) ∧ OkD K (.tup ds) := ⟨tup_okd fun d hd => by
  obtain ⟨i, rfl, _⟩ := betw_int (h.1.2.2 d hd)
  exact int_okd _, tup_okd fun d hd => pi_okd (h.2.2 d hd)⟩
theorem so_okd2 {d : D} (h : isSo d = true) : OkD K d := by
  obtain ⟨w, c, rfl, _⟩ := so_shape h
  exact tup_okd fun x hx => by
    have : x = .int w ∨ x = .int c := by simpa using hx
    rcases this with rfl | rfl <;> exact int_okd _
theorem ki_okd {ss : List D} {d : D} (h : isKi ss d = true) : OkD K d := by
  obtain ⟨l, js, rfl, hl, _, hj⟩ := kindD_get h
  refine tup_okd fun x hx => ?_
  have : x = l ∨ x = .tup js := by simpa using hx
  rcases this with rfl | rfl
  · exact li_okd hl
  · refine tup_okd fun y hy => ?_
    obtain ⟨a, b, rfl⟩ := hj y hy
    exact tup_okd fun z hz => by
      have : z = .int a ∨ z = .int b := by simpa using hz
      rcases this with rfl | rfl <;> exact int_okd _
theorem book_okd {ss ks : List D} (h : BookV ss ks) : OkD K (.tup ss) ∧ OkD K (.tup ks) := ⟨tup_okd fun d hd => so_okd2 (h.1.2.2.1 d hd), tup_okd fun d hd => ki_okd (h.2.2 d hd)⟩
def dueF (ss ks us ds : List D) (d : D) : D := if isSf us.length ss.length d = true then (match d with | .tup so => .tup [.str "told", faultS ss ks us ds so] | _ => .non) else .tup [.str "refused", .lst [.bl true, .bl false, .bl false], .int 0]
theorem met_ok {Z : CT} {τ : List Cell} {ss ks us ds : List D} {d : D} {q : D → List Cell → Prop} {e : Xn → List Cell → Prop} (L : LawF K Z) (hb : BookV ss ks) (hj : ∀ d ∈ ks, JsShort d) (hw : WebV us ds) (hd : OkD K d)
    (e1 : τ[4]? = some (.dat (.tup ss))) (e2 : τ[5]? = some (.dat (bkD ss ks))) (e3 : τ[6]? = some (.dat (wbD us ds d))) (e4 : τ[7]? = some (.dat (dueF ss ks us ds d))) (hq : q (.bl true) τ) :
    wCall 2 (fs__law_met K) (wcCons (wTold (tellC K Z) (wCall 3 (fs_fault K Z) (wcCons (wMkI Z.C_Book 2 (fs_Book__init__ K Z) (wCons (wVar 4) (wCons (wOp gIx (wVar 5) (wC (.int 1))) wNil))) (wcCons (wMkI Z.C_Web 2 (fs_Web__init__ K Z) (wCons (wOp gIx (wVar 6) (wC (.int 0))) (wCons (wOp gIx (wVar 6) (wC (.int 1))) wNil))) (wcCons (wOp gIx (wVar 6) (wC (.int 2))) wcNil))))) (wcCons (wVar 7) wcNil)) τ q e := by
  simp only [wTold, wMkI, fs_Book__init__, fs_Web__init__, fs__law_met, e1, e2, e3, e4, hq, wAugOwn, wEnumL, wTru, wSlA, gCatA, gLtT, gLeT, wFrz, wChain3, wAttr, wMkF, wEnumT, wRevT, wDict0, wDict1, numD3, Nat.reduceAdd, atI0, atI1, atI2, atI3, atI4, ixN51, ixN52, ixN53, List.length_map, wNever, scal, V.int.injEq, V.str.injEq, V.bl.injEq, wSq, wNext, wBreak, wCont, wDrop, wRet, wRetN, wIfS, wAsg, wPar, wLstOwn, wAppend, wSetOwn, wIxOwn, wPeek, wRetOwn, wRetFr, wFor, wB, wNot, wAnd, wOr, wAndV, wOrV, wNotV, wIf, wChain, wNil, wCons, wCB, wTup, wLst, wNoPart, wPart, wSlT, wSlL, wSeq, wRng1, wRng2, wZip, wName, wNilT, wConsT, wTupT, wYes, wNeg, wVar, wC, wOp, wcNil, wcCons, wcOwn, wCall, wCallOwn, slots, cellsOf, OwnArgs, putBack, g2I, g2IC, gLen, gAbs, gGcd, gInt1, gTupleOf, gListOf, gIx, gCatT, gCat, gEq, gNe, gIsN, gNotN, scD, seqD_t, seqD_l, seqD_f, isNonD, List.nodup_cons, List.mem_cons, List.not_mem_nil, or_false, not_false_eq_true, Nat.reduceEqDiff, L3.Keeps, ends, wipeD, List.replicate, List.cons_append, List.nil_append, List.append_nil, List.getElem?_cons_zero, List.getElem?_cons_succ, List.set_cons_zero, List.set_cons_succ, List.getD_cons_zero, List.getD_cons_succ, List.length_cons, List.length_nil, List.nodup_nil, Option.some.injEq, Cell.dat.injEq, Cell.own.injEq, Cont.lst.injEq, D.bl.injEq, D.int.injEq, D.str.injEq, D.tup.injEq, D.lst.injEq, Arg.d.injEq, List.cons.injEq, exists_and_left, exists_and_right, exists_eq_left', exists_eq_left, exists_eq_right, exists_eq_right', exists_eq, exists_eq', and_true, true_and, and_assoc, and_self, exists_const, reduceCtorEq]
  refine fun x dx => ⟨dx, rfl, _, _, rfl, (book_okd hb).1, (book_okd hb).2, hj, fun part z => ?_, fun _ => ⟨_, rfl, fun x dx => ⟨dx, rfl, _, _, rfl, (web_okd hw).1, (web_okd hw).2, fun part z => ?_, fun _ => ⟨_, rfl, ?_⟩⟩⟩⟩
  · rw [book_ok hb] at z
    cases z
  · rw [web_ok hw] at z
    cases z
  · refine ⟨ss, ks, us, ds, d, rfl, hb, hw, hd, fun z => ?_, fun so e0 z => ?_⟩
    · refine ⟨rfl, [true, false, false], ⟨_, _, _, rfl, L.e_NoSorts⟩, _, e4, ?_, .inr (.inl ⟨_, _, _, rfl⟩), hq⟩
      simp [dueF, z]
    · subst e0
      refine ⟨_, e4, ?_, .inl fault_same, hq⟩
      simp [dueF, z]
theorem t10_law_ok {Z : CT} {c0 c1 c2 c3 : Cell} {ss ks us ds : List D} {d : D} {E : EndsD} (L : LawF K Z) (hb : BookV ss ks) (hj : ∀ d ∈ ks, JsShort d) (hw : WebV us ds) (hd : OkD K d)
    (hr : E.rt (.bl true) [c0, c1, c2, c3, .dat (.tup ss), .dat (bkD ss ks), .dat (wbD us ds d), .dat (dueF ss ks us ds d)]) : t10_law K Z E [c0, c1, c2, c3, .dat (.tup ss), .dat (bkD ss ks), .dat (wbD us ds d), .dat (dueF ss ks us ds d)] := by
  unfold t10_law wRet
  exact met_ok L hb hj hw hd rfl rfl rfl rfl hr
theorem sf_of {n m : Nat} {so : List D} (h : SoV n m so) : isSf n m (.tup so) = true := by
  simp only [isSf, Bool.and_eq_true, decide_eq_true_eq, List.all_eq_true]
  exact h
theorem t9_law_ok {Z : CT} {c0 c1 c2 c3 c7 : Cell} {ss ks us ds : List D} {d : D} {E : EndsD} (L : LawF K Z) (hb : BookV ss ks) (hj : ∀ d ∈ ks, JsShort d) (hw : WebV us ds) (hd : OkD K d)
    (hr : ∀ c6 c7, E.rt (.bl true) [c0, c1, c2, c3, .dat (.tup ss), .dat (bkD ss ks), c6, c7]) : t9_law K Z E [c0, c1, c2, c3, .dat (.tup ss), .dat (bkD ss ks), .dat (wbD us ds d), c7] := by
  simp only [t9_law, fs__law_are_sorts_of, seqD_t, wAugOwn, wEnumL, wTru, wSlA, gCatA, gLtT, gLeT, wFrz, wChain3, wAttr, wMkF, wEnumT, wRevT, wDict0, wDict1, numD3, Nat.reduceAdd, atI0, atI1, atI2, atI3, atI4, ixN51, ixN52, ixN53, List.length_map, wNever, scal, V.int.injEq, V.str.injEq, V.bl.injEq, wSq, wNext, wBreak, wCont, wDrop, wRet, wRetN, wIfS, wAsg, wPar, wLstOwn, wAppend, wSetOwn, wIxOwn, wPeek, wRetOwn, wRetFr, wFor, wB, wNot, wAnd, wOr, wAndV, wOrV, wNotV, wIf, wChain, wNil, wCons, wCB, wTup, wLst, wNoPart, wPart, wSlT, wSlL, wSeq, wRng1, wRng2, wZip, wName, wNilT, wConsT, wTupT, wYes, wNeg, wVar, wC, wOp, wcNil, wcCons, wcOwn, wCall, wCallOwn, slots, cellsOf, OwnArgs, putBack, g2I, g2IC, gLen, gAbs, gGcd, gInt1, gTupleOf, gListOf, gIx, gCatT, gCat, gEq, gNe, gIsN, gNotN, scD, seqD_t, seqD_l, seqD_f, isNonD, List.nodup_cons, List.mem_cons, List.not_mem_nil, or_false, not_false_eq_true, Nat.reduceEqDiff, L3.Keeps, ends, wipeD, List.replicate, List.cons_append, List.nil_append, List.append_nil, List.getElem?_cons_zero, List.getElem?_cons_succ, List.set_cons_zero, List.set_cons_succ, List.getD_cons_zero, List.getD_cons_succ, List.length_cons, List.length_nil, List.nodup_nil, Option.some.injEq, Cell.dat.injEq, Cell.own.injEq, Cont.lst.injEq, D.bl.injEq, D.int.injEq, D.str.injEq, D.tup.injEq, D.lst.injEq, Arg.d.injEq, List.cons.injEq, exists_and_left, exists_and_right, exists_eq_left', exists_eq_left, exists_eq_right, exists_eq_right', exists_eq, exists_eq', and_true, true_and, and_assoc, and_self, exists_const, reduceCtorEq]
  refine ⟨us.length, rfl, ss.length, rfl, hd, fun z => ?_, fun z => ?_⟩
  · obtain ⟨so, rfl, hs⟩ := sf_shape z
    have ed : dueF ss ks us ds (.tup so) = .tup [.str "told", faultS ss ks us ds so] := by simp [dueF, z]
    have h10 := t10_law_ok (c0 := c0) (c1 := c1) (c2 := c2) (c3 := c3) L hb hj hw hd (hr _ _)
    rw [ed] at h10
    exact ⟨ss, ks, us, ds, so, _, rfl, hb, hw, hs, by decide, h10⟩
  · have ed : dueF ss ks us ds d = .tup [.str "refused", .lst [.bl true, .bl false, .bl false], .int 0] := by simp [dueF, z]
    have h10 := t10_law_ok (c0 := c0) (c1 := c1) (c2 := c2) (c3 := c3) L hb hj hw hd (hr _ _)
    rw [ed] at h10
    exact ⟨by decide, by decide, h10⟩
theorem t8_law_ok {Z : CT} {c0 c3 c7 : Cell} {p : Addr} {c : Cont} {k : Int} {ss ks us ds so : List D} {E : EndsD} (L : LawF K Z) (hc : SrcC c) (hb : BookV ss ks) (hj : ∀ d ∈ ks, JsShort d) (hw : WebV us ds) (hs : SoV us.length ss.length so)
    (hr : ∀ c1 c6 c7, E.rt (.bl true) [c0, c1, .dat (.int k), c3, .dat (.tup ss), .dat (bkD ss ks), c6, c7]) : t8_law K Z E [c0, .own p c, .dat (.int k), c3, .dat (.tup ss), .dat (bkD ss ks), .dat (wbD us ds (.tup so)), c7] := by
  simp only [t8_law, seqD_t, wAugOwn, wEnumL, wTru, wSlA, gCatA, gLtT, gLeT, wFrz, wChain3, wAttr, wMkF, wEnumT, wRevT, wDict0, wDict1, numD3, Nat.reduceAdd, atI0, atI1, atI2, atI3, atI4, ixN51, ixN52, ixN53, List.length_map, wNever, scal, V.int.injEq, V.str.injEq, V.bl.injEq, wSq, wNext, wBreak, wCont, wDrop, wRet, wRetN, wIfS, wAsg, wPar, wLstOwn, wAppend, wSetOwn, wIxOwn, wPeek, wRetOwn, wRetFr, wFor, wB, wNot, wAnd, wOr, wAndV, wOrV, wNotV, wIf, wChain, wNil, wCons, wCB, wTup, wLst, wNoPart, wPart, wSlT, wSlL, wSeq, wRng1, wRng2, wZip, wName, wNilT, wConsT, wTupT, wYes, wNeg, wVar, wC, wOp, wcNil, wcCons, wcOwn, wCall, wCallOwn, slots, cellsOf, OwnArgs, putBack, g2I, g2IC, gLen, gAbs, gGcd, gInt1, gTupleOf, gListOf, gIx, gCatT, gCat, gEq, gNe, gIsN, gNotN, scD, seqD_t, seqD_l, seqD_f, isNonD, List.nodup_cons, List.mem_cons, List.not_mem_nil, or_false, not_false_eq_true, Nat.reduceEqDiff, L3.Keeps, ends, wipeD, List.replicate, List.cons_append, List.nil_append, List.append_nil, List.getElem?_cons_zero, List.getElem?_cons_succ, List.set_cons_zero, List.set_cons_succ, List.getD_cons_zero, List.getD_cons_succ, List.length_cons, List.length_nil, List.nodup_nil, Option.some.injEq, Cell.dat.injEq, Cell.own.injEq, Cont.lst.injEq, D.bl.injEq, D.int.injEq, D.str.injEq, D.tup.injEq, D.lst.injEq, Arg.d.injEq, List.cons.injEq, exists_and_left, exists_and_right, exists_eq_left', exists_eq_left, exists_eq_right, exists_eq_right', exists_eq, exists_eq', and_true, true_and, and_assoc, and_self, exists_const, reduceCtorEq]
  refine ⟨fun _ => ⟨p, c, k, ss, ks, us, ds, so, rfl, hc, hb.1.1, hb.1.2.1, hw, hs, L.w, fun c' us' ds' y hc' hw' hy => ?_⟩, fun _ => ?_⟩
  · exact t9_law_ok L hb hj hw' hy (hr _)
  · exact t9_law_ok L hb hj hw (tup_okd (so_okd hs)) (hr _)
theorem t7_law_ok {Z : CT} {c0 c3 : Cell} {p : Addr} {c : Cont} {k : Int} {ss ks us ds so : List D} {E : EndsD} (L : LawF K Z) (hc : SrcC c) (hb : BookV ss ks) (hj : ∀ d ∈ ks, JsShort d) (hw : WebV us ds) (hs : SoV us.length ss.length so)
    (hr : ∀ c1 c6 c7, E.rt (.bl true) [c0, c1, .dat (.int k), c3, .dat (.tup ss), .dat (bkD ss ks), c6, c7]) : t7_law K Z E [c0, .own p c, .dat (.int k), c3, .dat (.tup ss), .dat (bkD ss ks), .dat (wbD us ds (.tup so)), .dat (dueF ss ks us ds (.tup so))] := by
  simp only [t7_law, wSq, wIfS, wNot, wB, wRet, wNext]
  refine met_ok L hb hj hw (tup_okd (so_okd hs)) rfl rfl rfl rfl ?_
  exact ⟨true, rfl, fun z => (nomatch z), fun _ => t8_law_ok L hc hb hj hw hs hr⟩
theorem t6_law_ok {Z : CT} {c0 c3 c7 : Cell} {p : Addr} {c : Cont} {k : Int} {ss ks us ds so : List D} {E : EndsD} (L : LawF K Z) (hc : SrcC c) (hb : BookV ss ks) (hj : ∀ d ∈ ks, JsShort d) (hw : WebV us ds) (hs : SoV us.length ss.length so)
    (hr : ∀ c1 c6 c7, E.rt (.bl true) [c0, c1, .dat (.int k), c3, .dat (.tup ss), .dat (bkD ss ks), c6, c7]) : t6_law K Z E [c0, .own p c, .dat (.int k), c3, .dat (.tup ss), .dat (bkD ss ks), .dat (wbD us ds (.tup so)), c7] := by
  have ed : dueF ss ks us ds (.tup so) = .tup [.str "told", faultS ss ks us ds so] := by simp [dueF, sf_of hs]
  have h7 := t7_law_ok (c0 := c0) (c3 := c3) (p := p) (c := c) (k := k) L hc hb hj hw hs hr
  rw [ed] at h7
  simp only [t6_law, seqD_t, wAugOwn, wEnumL, wTru, wSlA, gCatA, gLtT, gLeT, wFrz, wChain3, wAttr, wMkF, wEnumT, wRevT, wDict0, wDict1, numD3, Nat.reduceAdd, atI0, atI1, atI2, atI3, atI4, ixN51, ixN52, ixN53, List.length_map, wNever, scal, V.int.injEq, V.str.injEq, V.bl.injEq, wSq, wNext, wBreak, wCont, wDrop, wRet, wRetN, wIfS, wAsg, wPar, wLstOwn, wAppend, wSetOwn, wIxOwn, wPeek, wRetOwn, wRetFr, wFor, wB, wNot, wAnd, wOr, wAndV, wOrV, wNotV, wIf, wChain, wNil, wCons, wCB, wTup, wLst, wNoPart, wPart, wSlT, wSlL, wSeq, wRng1, wRng2, wZip, wName, wNilT, wConsT, wTupT, wYes, wNeg, wVar, wC, wOp, wcNil, wcCons, wcOwn, wCall, wCallOwn, slots, cellsOf, OwnArgs, putBack, g2I, g2IC, gLen, gAbs, gGcd, gInt1, gTupleOf, gListOf, gIx, gCatT, gCat, gEq, gNe, gIsN, gNotN, scD, seqD_t, seqD_l, seqD_f, isNonD, List.nodup_cons, List.mem_cons, List.not_mem_nil, or_false, not_false_eq_true, Nat.reduceEqDiff, L3.Keeps, ends, wipeD, List.replicate, List.cons_append, List.nil_append, List.append_nil, List.getElem?_cons_zero, List.getElem?_cons_succ, List.set_cons_zero, List.set_cons_succ, List.getD_cons_zero, List.getD_cons_succ, List.length_cons, List.length_nil, List.nodup_nil, Option.some.injEq, Cell.dat.injEq, Cell.own.injEq, Cont.lst.injEq, D.bl.injEq, D.int.injEq, D.str.injEq, D.tup.injEq, D.lst.injEq, Arg.d.injEq, List.cons.injEq, exists_and_left, exists_and_right, exists_eq_left', exists_eq_left, exists_eq_right, exists_eq_right', exists_eq, exists_eq', and_true, true_and, and_assoc, and_self, exists_const, reduceCtorEq]
  exact ⟨ss, ks, us, ds, so, _, rfl, hb, hw, hs, by decide, h7⟩
theorem t5_law_ok {Z : CT} {c0 c3 c6 c7 : Cell} {p : Addr} {c : Cont} {k : Int} {ss ks : List D} {E : EndsD} (L : LawF K Z) (hc : SrcC c) (hb : BookV ss ks) (hj : ∀ d ∈ ks, JsShort d)
    (hr : ∀ c1 c6 c7, E.rt (.bl true) [c0, c1, .dat (.int k), c3, .dat (.tup ss), .dat (bkD ss ks), c6, c7]) : t5_law K Z E [c0, .own p c, .dat (.int k), c3, .dat (.tup ss), .dat (bkD ss ks), c6, c7] := by
  simp only [t5_law, fs__law_draw, fs__law_woven, seqD_t, wAugOwn, wEnumL, wTru, wSlA, gCatA, gLtT, gLeT, wFrz, wChain3, wAttr, wMkF, wEnumT, wRevT, wDict0, wDict1, numD3, Nat.reduceAdd, atI0, atI1, atI2, atI3, atI4, ixN51, ixN52, ixN53, List.length_map, wNever, scal, V.int.injEq, V.str.injEq, V.bl.injEq, wSq, wNext, wBreak, wCont, wDrop, wRet, wRetN, wIfS, wAsg, wPar, wLstOwn, wAppend, wSetOwn, wIxOwn, wPeek, wRetOwn, wRetFr, wFor, wB, wNot, wAnd, wOr, wAndV, wOrV, wNotV, wIf, wChain, wNil, wCons, wCB, wTup, wLst, wNoPart, wPart, wSlT, wSlL, wSeq, wRng1, wRng2, wZip, wName, wNilT, wConsT, wTupT, wYes, wNeg, wVar, wC, wOp, wcNil, wcCons, wcOwn, wCall, wCallOwn, slots, cellsOf, OwnArgs, putBack, g2I, g2IC, gLen, gAbs, gGcd, gInt1, gTupleOf, gListOf, gIx, gCatT, gCat, gEq, gNe, gIsN, gNotN, scD, seqD_t, seqD_l, seqD_f, isNonD, List.nodup_cons, List.mem_cons, List.not_mem_nil, or_false, not_false_eq_true, Nat.reduceEqDiff, L3.Keeps, ends, wipeD, List.replicate, List.cons_append, List.nil_append, List.append_nil, List.getElem?_cons_zero, List.getElem?_cons_succ, List.set_cons_zero, List.set_cons_succ, List.getD_cons_zero, List.getD_cons_succ, List.length_cons, List.length_nil, List.nodup_nil, Option.some.injEq, Cell.dat.injEq, Cell.own.injEq, Cont.lst.injEq, D.bl.injEq, D.int.injEq, D.str.injEq, D.tup.injEq, D.lst.injEq, Arg.d.injEq, List.cons.injEq, exists_and_left, exists_and_right, exists_eq_left', exists_eq_left, exists_eq_right, exists_eq_right', exists_eq, exists_eq', and_true, true_and, and_assoc, and_self, exists_const, reduceCtorEq]
  exact ⟨hc, by decide, by decide, fun c1 n hc1 n0 n1 => ⟨hc1, by decide, by decide, fun c2 m hc2 m0 m1 => ⟨hc2, hb, hj, by omega, by omega, m0, by omega, fun c3 us ds so hc3 _ hw => t6_law_ok L hc3 hb hj hw.1 hw.2 hr⟩⟩⟩
theorem pure_law {Z : CT} : PureD 1 7 (fs_law K Z) (w_law K Z) := by
  rintro cs q e - ⟨ns, rfl, hl, L, hq⟩
  simp only [w_law, fs__law_source, fs__law_draw, fs__law_sorts, fs__law_kinds, wAugOwn, wEnumL, wTru, wSlA, gCatA, gLtT, gLeT, wFrz, wChain3, wAttr, wMkF, wEnumT, wRevT, wDict0, wDict1, numD3, Nat.reduceAdd, atI0, atI1, atI2, atI3, atI4, ixN51, ixN52, ixN53, List.length_map, wNever, scal, V.int.injEq, V.str.injEq, V.bl.injEq, wSq, wNext, wBreak, wCont, wDrop, wRet, wRetN, wIfS, wAsg, wPar, wLstOwn, wAppend, wSetOwn, wIxOwn, wPeek, wRetOwn, wRetFr, wFor, wB, wNot, wAnd, wOr, wAndV, wOrV, wNotV, wIf, wChain, wNil, wCons, wCB, wTup, wLst, wNoPart, wPart, wSlT, wSlL, wSeq, wRng1, wRng2, wZip, wName, wNilT, wConsT, wTupT, wYes, wNeg, wVar, wC, wOp, wcNil, wcCons, wcOwn, wCall, wCallOwn, slots, cellsOf, OwnArgs, putBack, g2I, g2IC, gLen, gAbs, gGcd, gInt1, gTupleOf, gListOf, gIx, gCatT, gCat, gEq, gNe, gIsN, gNotN, scD, seqD_t, seqD_l, seqD_f, isNonD, List.nodup_cons, List.mem_cons, List.not_mem_nil, or_false, not_false_eq_true, Nat.reduceEqDiff, L3.Keeps, ends, wipeD, List.replicate, List.cons_append, List.nil_append, List.append_nil, List.getElem?_cons_zero, List.getElem?_cons_succ, List.set_cons_zero, List.set_cons_succ, List.getD_cons_zero, List.getD_cons_succ, List.length_cons, List.length_nil, List.nodup_nil, Option.some.injEq, Cell.dat.injEq, Cell.own.injEq, Cont.lst.injEq, D.bl.injEq, D.int.injEq, D.str.injEq, D.tup.injEq, D.lst.injEq, Arg.d.injEq, List.cons.injEq, exists_and_left, exists_and_right, exists_eq_left', exists_eq_left, exists_eq_right, exists_eq_right', exists_eq, exists_eq', and_true, true_and, and_assoc, and_self, exists_const, reduceCtorEq]
  refine ⟨ns, rfl, hl, fun f p => ⟨⟨ns, 0, 0, 0, f, rfl, by decide, by decide⟩, by decide, by decide, fun c1 k hc1 a1 a2 => ⟨hc1, by decide, by decide, fun c2 w hc2 w0 w1 => ⟨hc2, by decide, by decide, fun c3 n hc3 n0 n1 => ⟨hc3, by omega, by omega, fun c4 ss hc4 hl4 hs => ⟨hc4, by decide, by decide, fun c5 m hc5 m0 m1 => ⟨hc5, by omega, hs.1, by omega, by omega, fun c6 ks hc6 lk hk => ⟨by decide, ?_⟩⟩⟩⟩⟩⟩⟩⟩
  have hb : BookV ss ks := ⟨⟨by omega, by omega, hs.1, hs.2⟩, by omega, fun d hd => kindD_ki (hk d hd)⟩
  have hj : ∀ d ∈ ks, JsShort d := fun d hd => by
    obtain ⟨es, js, rfl, _, _, h3, _⟩ := hk d hd
    show js.length ≤ 900
    omega
  exact t5_law_ok L hc6 hb hj fun _ _ _ => ⟨trivial, hq⟩
theorem ok_law (T : Txt K mg) {f cL PL : Addr} {kV doc pm ct oc : Value} {an od : Option Addr} {osl : Array (Option Value)} (lk : K.lookup f = some ⟨oc, od, .func (PySem.W.fnOf "law" "law" (defArgs s_law) (defBody s_law) (defScope s_law) .none kV doc pm an (.ref cL) ct), osl⟩) (hcd : PySem.W.codeIn K (.ref cL) "law" = true) (HT : LamX.TabB base mg cL PL) (hmT : (PL, lamQ) ∈ TB.T) (hu : ∀ p ∈ TB.T, p.1 = PL → p.2 = lamQ) :
    FnOk P w K mg base (L2.CX P w) 10 f (PySem.W.fnOf "law" "law" (defArgs s_law) (defBody s_law) (defScope s_law) .none kV doc pm an (.ref cL) ct) ["script"] (spOf K 1 (fs_law K T.Z)) := by
  refine def_okC lk hcd sc_law (wb := w_law K T.Z) pure_law ?_
  intro A outer s H E hr tk
  exact ⟨_, (pss_cons (ps_set (i := 1) sc_law.nd rfl (by first | exact Or.inl rfl | exact Or.inr rfl) (pe_callS (ok__law_source T) (hr.mono (by decide)) rfl T.g__law_source T.k__law_source T.b__law_source (fun σ => passAt tk σ) (pa_cons (pv 0) pa_nil)))
      (pss_cons (ps_set (i := 2) sc_law.nd rfl (by first | exact Or.inl rfl | exact Or.inr rfl) (pe_callS (ok__law_draw T) (hr.mono (by decide)) rfl T.g__law_draw T.k__law_draw T.b__law_draw (fun σ => passAt tk σ) (pa_cons (pv 1) (pa_cons pe_int pa_nil))))
      (pss_cons (ps_set (i := 3) sc_law.nd rfl (by first | exact Or.inl rfl | exact Or.inr rfl) (pe_cmpR op_eq (pe_callS (ok__law_draw T) (hr.mono (by decide)) rfl T.g__law_draw T.k__law_draw T.b__law_draw (fun σ => passAt tk σ) (pa_cons (pv 1) (pa_cons pe_int pa_nil))) pe_int (nomark _)))
      (pss_cons (ps_set (i := 4) sc_law.nd rfl (by first | exact Or.inl rfl | exact Or.inr rfl) (pe_callS (ok__law_sorts T) (hr.mono (by decide)) rfl T.g__law_sorts T.k__law_sorts T.b__law_sorts (fun σ => passAt tk σ) (pa_cons (pv 1) (pa_cons (pe_op op_add pe_int (pe_callS (ok__law_draw T) (hr.mono (by decide)) rfl T.g__law_draw T.k__law_draw T.b__law_draw (fun σ => passAt tk σ) (pa_cons (pv 1) (pa_cons pe_int pa_nil)))) (pa_cons (pv 3) pa_nil)))))
      (pss_cons (ps_set (i := 5) sc_law.nd rfl (by first | exact Or.inl rfl | exact Or.inr rfl) (pe_tup (pa_cons (pv 4) (pa_cons (pe_callS (ok__law_kinds T) (hr.mono (by decide)) rfl T.g__law_kinds T.k__law_kinds T.b__law_kinds (fun σ => passAt tk σ) (pa_cons (pv 1) (pa_cons (pv 4) (pa_cons (pe_op op_add pe_int (pe_callS (ok__law_draw T) (hr.mono (by decide)) rfl T.g__law_draw T.k__law_draw T.b__law_draw (fun σ => passAt tk σ) (pa_cons (pv 1) (pa_cons pe_int pa_nil)))) (pa_cons (pv 3) pa_nil))))) pa_nil))))
      (pss_cons (ps_set (i := 6) sc_law.nd rfl (by first | exact Or.inl rfl | exact Or.inr rfl) (pe_callS (ok__law_woven T) (hr.mono (by decide)) rfl T.g__law_woven T.k__law_woven T.b__law_woven (fun σ => passAt tk σ) (pa_cons (pv 1) (pa_cons (pv 4) (pa_cons (pe_ix ix_seq (pv 5) pe_int (fun _ _ => rfl)) (pa_cons (pe_op op_add pe_int (pe_callS (ok__law_draw T) (hr.mono (by decide)) rfl T.g__law_draw T.k__law_draw T.b__law_draw (fun σ => passAt tk σ) (pa_cons (pv 1) (pa_cons pe_int pa_nil)))) (pa_cons (pe_callS (ok__law_draw T) (hr.mono (by decide)) rfl T.g__law_draw T.k__law_draw T.b__law_draw (fun σ => passAt tk σ) (pa_cons (pv 1) (pa_cons pe_int pa_nil))) pa_nil)))))))
      (pss_cons (ps_set (i := 7) sc_law.nd rfl (by first | exact Or.inl rfl | exact Or.inr rfl) (pe_tup (pa_cons pe_str (pa_cons (pe_callS (ok__law_fault T) (hr.mono (by decide)) rfl T.g__law_fault T.k__law_fault T.b__law_fault (fun σ => passAt tk σ) (pa_cons (pv 5) (pa_cons (pv 6) (pa_cons (pe_ix ix_seq (pv 6) pe_int (fun _ _ => rfl)) pa_nil)))) pa_nil))))
      (pss_cons (ps_if (pt_not (pt_val (pe_callS (ok__law_met T) (hr.mono (by decide)) rfl T.g__law_met T.k__law_met T.b__law_met (fun σ => passAt tk σ) (pa_cons (pe_told (k := 7) T.F__law_told T.b__law_told rfl T.g__law_told sc__law_told rfl (by first | exact Or.inl rfl | exact Or.inr (Or.inl rfl) | exact Or.inr (Or.inr rfl)) (fun _ => told_gives' T rfl rfl) HT rfl hmT hu (hr.mono (by decide)) (@LamX.LamS.mk (defScope s_law) _ rfl rfl rfl (by decide +kernel) (by decide +kernel)) rfl (fun _ _ _ _ _ => rfl) (fun A outer s H E f c' hr => (pe_callS (ok_fault T) (hr.mono (by decide)) rfl T.g_fault T.k_fault T.b_fault (fun σ => passAt (takes_of rfl rfl rfl rfl) σ) (pa_cons (pe_make T.cm_Book (ok_Book__init__ T) (hr.mono (by decide)) rfl T.gc_Book T.b_Book__init__ .nil (passF (takes_of rfl rfl rfl rfl)) (pa_cons (pv 4) (pa_cons (pe_ix ix_seq (pv 5) pe_int (fun _ _ => rfl)) pa_nil))) (pa_cons (pe_make T.cm_Web (ok_Web__init__ T) (hr.mono (by decide)) rfl T.gc_Web T.b_Web__init__ .nil (passF (takes_of rfl rfl rfl rfl)) (pa_cons (pe_ix ix_seq (pv 6) pe_int (fun _ _ => rfl)) (pa_cons (pe_ix ix_seq (pv 6) pe_int (fun _ _ => rfl)) pa_nil))) (pa_cons (pe_ix ix_seq (pv 6) pe_int (fun _ _ => rfl)) pa_nil)))))) (pa_cons (pv 7) pa_nil)))))
        (pss_one (ps_ret pe_bl))
        pss_nil)
      (pss_cons (ps_if (pt_cmpR op_lt (pv 2) pe_int (nomark _))
        (pss_one (ps_set (i := 6) sc_law.nd rfl (by first | exact Or.inl rfl | exact Or.inr rfl) (pe_callS (ok__law_changed T) (hr.mono (by decide)) rfl T.g__law_changed T.k__law_changed T.b__law_changed (fun σ => passAt tk σ) (pa_cons (pv 1) (pa_cons (pv 2) (pa_cons (pv 5) (pa_cons (pv 6) pa_nil)))))))
        pss_nil)
      (pss_cons (ps_if (pt_val (pe_callS (ok__law_are_sorts_of T) (hr.mono (by decide)) rfl T.g__law_are_sorts_of T.k__law_are_sorts_of T.b__law_are_sorts_of (fun σ => passAt tk σ) (pa_cons (pe_ix ix_seq (pv 6) pe_int (fun _ _ => rfl)) (pa_cons (pe_callB call_len_seq (by rfl) T.z_len (by decide +kernel) (pa_cons (pe_ix ix_seq (pv 6) pe_int (fun _ _ => rfl)) pa_nil)) (pa_cons (pe_callB call_len_seq (by rfl) T.z_len (by decide +kernel) (pa_cons (pv 4) pa_nil)) pa_nil)))))
        (pss_one (ps_set (i := 7) sc_law.nd rfl (by first | exact Or.inl rfl | exact Or.inr rfl) (pe_tup (pa_cons pe_str (pa_cons (pe_callS (ok__law_fault T) (hr.mono (by decide)) rfl T.g__law_fault T.k__law_fault T.b__law_fault (fun σ => passAt tk σ) (pa_cons (pv 5) (pa_cons (pv 6) (pa_cons (pe_ix ix_seq (pv 6) pe_int (fun _ _ => rfl)) pa_nil)))) pa_nil)))))
        (pss_one (ps_set (i := 7) sc_law.nd rfl (by first | exact Or.inl rfl | exact Or.inr rfl) (pe_tup (pa_cons pe_str (pa_cons (pe_lst (pa_cons pe_bl (pa_cons pe_bl (pa_cons pe_bl pa_nil)))) (pa_cons pe_int pa_nil)))))))
      (pss_one (ps_ret (pe_callS (ok__law_met T) (hr.mono (by decide)) rfl T.g__law_met T.k__law_met T.b__law_met (fun σ => passAt tk σ) (pa_cons (pe_told (k := 7) T.F__law_told T.b__law_told rfl T.g__law_told sc__law_told rfl (by first | exact Or.inl rfl | exact Or.inr (Or.inl rfl) | exact Or.inr (Or.inr rfl)) (fun _ => told_gives' T rfl rfl) HT rfl hmT hu (hr.mono (by decide)) (@LamX.LamS.mk (defScope s_law) _ rfl rfl rfl (by decide +kernel) (by decide +kernel)) rfl (fun _ _ _ _ _ => rfl) (fun A outer s H E f c' hr => (pe_callS (ok_fault T) (hr.mono (by decide)) rfl T.g_fault T.k_fault T.b_fault (fun σ => passAt (takes_of rfl rfl rfl rfl) σ) (pa_cons (pe_make T.cm_Book (ok_Book__init__ T) (hr.mono (by decide)) rfl T.gc_Book T.b_Book__init__ .nil (passF (takes_of rfl rfl rfl rfl)) (pa_cons (pv 4) (pa_cons (pe_ix ix_seq (pv 5) pe_int (fun _ _ => rfl)) pa_nil))) (pa_cons (pe_make T.cm_Web (ok_Web__init__ T) (hr.mono (by decide)) rfl T.gc_Web T.b_Web__init__ .nil (passF (takes_of rfl rfl rfl rfl)) (pa_cons (pe_ix ix_seq (pv 6) pe_int (fun _ _ => rfl)) (pa_cons (pe_ix ix_seq (pv 6) pe_int (fun _ _ => rfl)) pa_nil))) (pa_cons (pe_ix ix_seq (pv 6) pe_int (fun _ _ => rfl)) pa_nil)))))) (pa_cons (pv 7) pa_nil))))))))))))))),
    (ds_seq (ds_callOwn (i := 1) (n := 1) (fs := fs__law_source K) (dac_cons (de_var 0) dac_nil))
      (ds_seq (ds_asg (de_call (n := 2) (fs := fs__law_draw K) (dac_own (j := 1) (dac_cons de_int dac_nil))) (dg_name 2))
      (ds_seq (ds_asg (de_op o_eq (de_call (n := 2) (fs := fs__law_draw K) (dac_own (j := 1) (dac_cons de_int dac_nil))) de_int) (dg_name 3))
      (ds_seq (ds_asg (de_call (n := 3) (fs := fs__law_sorts K) (dac_own (j := 1) (dac_cons (de_op o_add de_int (de_call (n := 2) (fs := fs__law_draw K) (dac_own (j := 1) (dac_cons de_int dac_nil)))) (dac_cons (de_var 3) dac_nil)))) (dg_name 4))
      (ds_seq (ds_asg (de_tup (da_cons (de_var 4) (da_cons (de_call (n := 4) (fs := fs__law_kinds K) (dac_own (j := 1) (dac_cons (de_var 4) (dac_cons (de_op o_add de_int (de_call (n := 2) (fs := fs__law_draw K) (dac_own (j := 1) (dac_cons de_int dac_nil)))) (dac_cons (de_var 3) dac_nil))))) da_nil))) (dg_name 5))
      (ds_seq (ds_asg (de_call (n := 5) (fs := fs__law_woven K) (dac_own (j := 1) (dac_cons (de_var 4) (dac_cons (de_op o_ix (de_var 5) de_int) (dac_cons (de_op o_add de_int (de_call (n := 2) (fs := fs__law_draw K) (dac_own (j := 1) (dac_cons de_int dac_nil)))) (dac_cons (de_call (n := 2) (fs := fs__law_draw K) (dac_own (j := 1) (dac_cons de_int dac_nil))) dac_nil)))))) (dg_name 6))
      (ds_seq (ds_asg (de_tup (da_cons de_str (da_cons (de_call (n := 3) (fs := fs__law_fault K) (dac_cons (de_var 5) (dac_cons (de_var 6) (dac_cons (de_op o_ix (de_var 6) de_int) dac_nil)))) da_nil))) (dg_name 7))
      (ds_seq (ds_if (dt_not (dt_B (de_call (n := 2) (fs := fs__law_met K) (dac_cons (de_told (tell := (tellC K T.Z)) fun E => (de_call (n := 3) (fs := fs_fault K T.Z) (dac_cons (de_makeI (n := 2) (fs := fs_Book__init__ K T.Z) (da_cons (de_var 4) (da_cons (de_op o_ix (de_var 5) de_int) da_nil))) (dac_cons (de_makeI (n := 2) (fs := fs_Web__init__ K T.Z) (da_cons (de_op o_ix (de_var 6) de_int) (da_cons (de_op o_ix (de_var 6) de_int) da_nil))) (dac_cons (de_op o_ix (de_var 6) de_int) dac_nil))))) (dac_cons (de_var 7) dac_nil))))) (ds_ret de_bl) ds_nil)
      (ds_seq (ds_if (dt_B (de_op o_lt (de_var 2) de_int)) (ds_asg (de_call (n := 4) (fs := fs__law_changed K T.Z) (dac_own (j := 1) (dac_cons (de_var 2) (dac_cons (de_var 5) (dac_cons (de_var 6) dac_nil))))) (dg_name 6)) ds_nil)
      (ds_seq (ds_if (dt_B (de_call (n := 3) (fs := fs__law_are_sorts_of K) (dac_cons (de_op o_ix (de_var 6) de_int) (dac_cons (de_cb o_len (da_cons (de_op o_ix (de_var 6) de_int) da_nil)) (dac_cons (de_cb o_len (da_cons (de_var 4) da_nil)) dac_nil))))) (ds_asg (de_tup (da_cons de_str (da_cons (de_call (n := 3) (fs := fs__law_fault K) (dac_cons (de_var 5) (dac_cons (de_var 6) (dac_cons (de_op o_ix (de_var 6) de_int) dac_nil)))) da_nil))) (dg_name 7)) (ds_asg (de_tup (da_cons de_str (da_cons (de_lst (da_cons de_bl (da_cons de_bl (da_cons de_bl da_nil)))) (da_cons de_int da_nil)))) (dg_name 7)))
      (ds_ret (de_call (n := 2) (fs := fs__law_met K) (dac_cons (de_told (tell := (tellC K T.Z)) fun E => (de_call (n := 3) (fs := fs_fault K T.Z) (dac_cons (de_makeI (n := 2) (fs := fs_Book__init__ K T.Z) (da_cons (de_var 4) (da_cons (de_op o_ix (de_var 5) de_int) da_nil))) (dac_cons (de_makeI (n := 2) (fs := fs_Web__init__ K T.Z) (da_cons (de_op o_ix (de_var 6) de_int) (da_cons (de_op o_ix (de_var 6) de_int) da_nil))) (dac_cons (de_op o_ix (de_var 6) de_int) dac_nil))))) (dac_cons (de_var 7) dac_nil))))))))))))))⟩
end
end K08

namespace K08
open PySem PySem.Spec PyProof.Rows L2 L3
/-! ## the law's own head -/
def noTbl (H : Hp) : Hp := fun b => match H b with | some (.tbl _) => none | o => o
theorem noTbl_same {H : Hp} : Same (noTbl H) H := fun b o e => by
  unfold noTbl at e
  split at e
  · cases e
  · exact e
theorem noTbl_nt {H : Hp} : ∀ b o, noTbl H b = some o → NT o := fun b o e ps z => by
  subst z
  unfold noTbl at e
  split at e
  · cases e
  · rename_i h
    exact h ps e
theorem noTbl_seq {K : PySem.W.Frag} {H : Hp} {a : Addr} {xs : List V} (h : SqL K H a xs) : SqL K (noTbl H) a xs := by
  rcases h with (h | ⟨o, h⟩) | h
  · exact .inl (.inl (by unfold noTbl; rw [h]))
  · exact .inl (.inr ⟨o, by unfold noTbl; rw [h]⟩)
  · exact .inr h
theorem law_at {l : PySem.W.OpenLaw} {w : World} {K : PySem.W.Frag} {mg : Str → Option Value} {h : Heap} (T : Txt K mg) (L : LawF K T.Z) {f cL PL : Addr} {kV doc pm ct oc : Value} {an od : Option Addr} {osl : Array (Option Value)}
    (lk : K.lookup f = some ⟨oc, od, .func (PySem.W.fnOf "law" "law" (defArgs s_law) (defBody s_law) (defScope s_law) .none kV doc pm an (.ref cL) ct), osl⟩) (hcd : PySem.W.codeIn K (.ref cL) "law" = true)
    (hP : h.get? PL = some { cls := .none, data := .fields #[] }) (nP : K.lookup PL = none) (hCd : PySem.W.CodeHd h cL PL) : LamX.LawAtS l w K (L2.CX l.prog w) 10 63 "script" mg f h := by
  letI TB : TabT := ⟨[(PL, lamQ)]⟩
  have one : ∀ {P : Addr × Addr → Prop}, P (cL, PL) → ∀ p ∈ [(cL, PL)], P p := fun hp p hm => by
    have : p = (cL, PL) := by simpa using hm
    rw [this]; exact hp
  refine ⟨_, [(cL, PL)], spOf K 1 (fs_law K T.Z), one hP, one nP, one hCd, fun s v => .of_eq rfl, fun H a ns hn _ hT hS => ?_, fun base _ _ hB => ok_law T lk hcd (hB _ (List.mem_cons_self ..)) (List.mem_cons_self ..) fun p hp _ => ?_⟩
  · have hH : H PL = some (.tbl #[]) := hT (cL, PL) (List.mem_cons_self ..)
    refine ⟨rfl, noTbl H, [.dat (.fl (ns.map D.int))], fun d _ => d = .bl true, fun _ _ => False, ⟨⟨fun p hp => ?_, noTbl_nt⟩, noTbl_same, rfl, fun i s c h1 h2 => ?_, fun i p g h1 => ?_, fun i j p g g' h1 _ => ?_⟩, ⟨ns, rfl, by omega, L, rfl⟩, fun v d cs' F' H' _ _ _ r e => ?_, fun _ _ _ _ _ _ _ _ _ _ z => z⟩
    · have : p = (PL, lamQ) := by
        have hp' : p ∈ [(PL, lamQ)] := hp
        simpa using hp'
      rw [this]
      exact .nil hH
    · match i, h1, h2 with
      | 0, h1, h2 =>
        cases h1; cases h2
        exact ⟨.ref a, rfl, .fl (noTbl_seq hS) Reps.ints⟩
      | i + 1, h1, h2 => simp at h1
    · match i, h1 with
      | 0, h1 => cases h1
      | i + 1, h1 => simp at h1
    · match i, h1 with
      | 0, h1 => cases h1
      | i + 1, h1 => simp at h1
    · subst e
      exact r.bl_of
  · have : p = (PL, lamQ) := by
      have hp' : p ∈ [(PL, lamQ)] := hp
      simpa using hp'
    rw [this]
theorem cx_none {P : Program} : ∀ (w : World) (H : Hp) (s : Shared) (e : Value) (s' : Shared), L2.CX P w [] H s (fun _ _ _ => False) e s' → False := fun w H s e s' ⟨_, _, _, _, _, _, _, _, _, _, _, _, z⟩ => z
theorem kit_bt {K : PySem.W.Frag} {C : Addr} {T : String} {b : Bool} (h1 : PySem.W.kitMeta T = true) (h : PySem.W.subIn K (.ref C) (.type T) = some b) : PySem.W.kitOne K (.ref C) (.type T) = some b := by
  show (if (Value.ref C == Value.type T) = true then some true else if PySem.W.kitMeta T = true then PySem.W.subIn K (.ref C) (.type T) else none) = some b
  have e : (Value.ref C == Value.type T) = false := rfl
  rw [e, if_neg (by decide), if_pos h1]
  exact h
theorem kit_cr {K : PySem.W.Frag} {C D : Addr} {b : Bool} (h1 : PySem.W.isClsIn K D = true) (h2 : PySem.W.typeIn K (.ref D) = some (.type "type")) (h : PySem.W.subIn K (.ref C) (.ref D) = some b) : PySem.W.kitCls K (.ref C) (.ref D) = some b := by
  have e2 : ((PySem.W.clsIn K D).isSome && PySem.W.typeIn K (.ref D) == some (.type "type")) = true := by
    have h1' : (PySem.W.clsIn K D).isSome = true := h1
    rw [h1', h2]
    rfl
  show (if ((PySem.W.clsIn K D).isSome && PySem.W.typeIn K (.ref D) == some (.type "type")) = true then PySem.W.subIn K (.ref C) (.ref D) else none) = some b
  rw [if_pos e2]
  exact h
theorem kit_rt {K : PySem.W.Frag} {C D : Addr} (h1 : PySem.W.isClsIn K D = true) (h2 : PySem.W.typeIn K (.ref D) = some (.type "type")) (h : PySem.W.subIn K (.ref C) (.ref D) = some true) : PySem.W.kitOne K (.ref C) (.ref D) = some true := by
  show (if (Value.ref C == Value.ref D) = true then some true else PySem.W.kitCls K (.ref C) (.ref D)) = some true
  rw [kit_cr h1 h2 h]
  split <;> rfl
theorem kit_rf {K : PySem.W.Frag} {C D : Addr} (hne : (Value.ref C == Value.ref D) = false) (h1 : PySem.W.isClsIn K D = true) (h2 : PySem.W.typeIn K (.ref D) = some (.type "type")) (h : PySem.W.subIn K (.ref C) (.ref D) = some false) : PySem.W.kitOne K (.ref C) (.ref D) = some false := by
  show (if (Value.ref C == Value.ref D) = true then some true else PySem.W.kitCls K (.ref C) (.ref D)) = some false
  rw [kit_cr h1 h2 h, hne]
  rfl
section
variable {K : PySem.W.Frag} {mg : Str → Option Value}
open PySem.W PySem.Calls PySem.HandSPX in
theorem all_mk {l : PySem.W.OpenLaw} {w : World} {h : Heap} {fa : Addr} (X : K.In h) (G : h.Ns mainGlobals mg) (hfa : mg "law" = some (.ref fa))
    {C_NoSorts : Addr}
    {C_Book : Addr}
    {C_Web : Addr}
    {C_TidesError : Addr}
    {C_NoSort : Addr}
    {C_BadBook : Addr}
    {C_BadWeb : Addr}
    {f_is_integer : Addr} {od_is_integer an_is_integer : Option Addr} {sl_is_integer : Array (Option Value)} {oc_is_integer kV_is_integer dc_is_integer pm_is_integer cd_is_integer ct_is_integer : Value}
    {f_is_between : Addr} {od_is_between an_is_between : Option Addr} {sl_is_between : Array (Option Value)} {oc_is_between kV_is_between dc_is_between pm_is_between cd_is_between ct_is_between : Value}
    {f_is_tuple_of : Addr} {od_is_tuple_of an_is_tuple_of : Option Addr} {sl_is_tuple_of : Array (Option Value)} {oc_is_tuple_of kV_is_tuple_of dc_is_tuple_of pm_is_tuple_of cd_is_tuple_of ct_is_tuple_of : Value}
    {f_is_fraction : Addr} {od_is_fraction an_is_fraction : Option Addr} {sl_is_fraction : Array (Option Value)} {oc_is_fraction kV_is_fraction dc_is_fraction pm_is_fraction cd_is_fraction ct_is_fraction : Value}
    {f_at_most : Addr} {od_at_most an_at_most : Option Addr} {sl_at_most : Array (Option Value)} {oc_at_most kV_at_most dc_at_most pm_at_most cd_at_most ct_at_most : Value}
    {f_is_threshold : Addr} {od_is_threshold an_is_threshold : Option Addr} {sl_is_threshold : Array (Option Value)} {oc_is_threshold kV_is_threshold dc_is_threshold pm_is_threshold cd_is_threshold ct_is_threshold : Value}
    {f_is_list : Addr} {od_is_list an_is_list : Option Addr} {sl_is_list : Array (Option Value)} {oc_is_list kV_is_list dc_is_list pm_is_list cd_is_list ct_is_list : Value}
    {f_ascends : Addr} {od_ascends an_ascends : Option Addr} {sl_ascends : Array (Option Value)} {oc_ascends kV_ascends dc_ascends pm_ascends cd_ascends ct_ascends : Value}
    {f_is_width : Addr} {od_is_width an_is_width : Option Addr} {sl_is_width : Array (Option Value)} {oc_is_width kV_is_width dc_is_width pm_is_width cd_is_width ct_is_width : Value}
    {f_is_widths : Addr} {od_is_widths an_is_widths : Option Addr} {sl_is_widths : Array (Option Value)} {oc_is_widths kV_is_widths dc_is_widths pm_is_widths cd_is_widths ct_is_widths : Value}
    {f_is_pipe : Addr} {od_is_pipe an_is_pipe : Option Addr} {sl_is_pipe : Array (Option Value)} {oc_is_pipe kV_is_pipe dc_is_pipe pm_is_pipe cd_is_pipe ct_is_pipe : Value}
    {f_Web__init__ : Addr} {od_Web__init__ an_Web__init__ : Option Addr} {sl_Web__init__ : Array (Option Value)} {oc_Web__init__ kV_Web__init__ dc_Web__init__ pm_Web__init__ cd_Web__init__ ct_Web__init__ : Value}
    {f_pipe_counts : Addr} {od_pipe_counts an_pipe_counts : Option Addr} {sl_pipe_counts : Array (Option Value)} {oc_pipe_counts kV_pipe_counts dc_pipe_counts pm_pipe_counts cd_pipe_counts ct_pipe_counts : Value}
    {f_is_sort : Addr} {od_is_sort an_is_sort : Option Addr} {sl_is_sort : Array (Option Value)} {oc_is_sort kV_is_sort dc_is_sort pm_is_sort cd_is_sort ct_is_sort : Value}
    {f_is_sort_tuple : Addr} {od_is_sort_tuple an_is_sort_tuple : Option Addr} {sl_is_sort_tuple : Array (Option Value)} {oc_is_sort_tuple kV_is_sort_tuple dc_is_sort_tuple pm_is_sort_tuple cd_is_sort_tuple ct_is_sort_tuple : Value}
    {f_is_join : Addr} {od_is_join an_is_join : Option Addr} {sl_is_join : Array (Option Value)} {oc_is_join kV_is_join dc_is_join pm_is_join cd_is_join ct_is_join : Value}
    {f_is_kind : Addr} {od_is_kind an_is_kind : Option Addr} {sl_is_kind : Array (Option Value)} {oc_is_kind kV_is_kind dc_is_kind pm_is_kind cd_is_kind ct_is_kind : Value}
    {f_Book__init__ : Addr} {od_Book__init__ an_Book__init__ : Option Addr} {sl_Book__init__ : Array (Option Value)} {oc_Book__init__ kV_Book__init__ dc_Book__init__ pm_Book__init__ cd_Book__init__ ct_Book__init__ : Value}
    {f_may_join : Addr} {od_may_join an_may_join : Option Addr} {sl_may_join : Array (Option Value)} {oc_may_join kV_may_join dc_may_join pm_may_join cd_may_join ct_may_join : Value}
    {f_exceeds_cap : Addr} {od_exceeds_cap an_exceeds_cap : Option Addr} {sl_exceeds_cap : Array (Option Value)} {oc_exceeds_cap kV_exceeds_cap dc_exceeds_cap pm_exceeds_cap cd_exceeds_cap ct_exceeds_cap : Value}
    {f_is_sorts : Addr} {od_is_sorts an_is_sorts : Option Addr} {sl_is_sorts : Array (Option Value)} {oc_is_sorts kV_is_sorts dc_is_sorts pm_is_sorts cd_is_sorts ct_is_sorts : Value}
    {f_first_fault : Addr} {od_first_fault an_first_fault : Option Addr} {sl_first_fault : Array (Option Value)} {oc_first_fault kV_first_fault dc_first_fault pm_first_fault cd_first_fault ct_first_fault : Value}
    {f_fault : Addr} {od_fault an_fault : Option Addr} {sl_fault : Array (Option Value)} {oc_fault kV_fault dc_fault pm_fault cd_fault ct_fault : Value}
    {f__law_source : Addr} {od__law_source an__law_source : Option Addr} {sl__law_source : Array (Option Value)} {oc__law_source kV__law_source dc__law_source pm__law_source cd__law_source ct__law_source : Value}
    {f__law_mixed : Addr} {od__law_mixed an__law_mixed : Option Addr} {sl__law_mixed : Array (Option Value)} {oc__law_mixed kV__law_mixed dc__law_mixed pm__law_mixed cd__law_mixed ct__law_mixed : Value}
    {f__law_draw : Addr} {od__law_draw an__law_draw : Option Addr} {sl__law_draw : Array (Option Value)} {oc__law_draw kV__law_draw dc__law_draw pm__law_draw cd__law_draw ct__law_draw : Value}
    {f__law_pick : Addr} {od__law_pick an__law_pick : Option Addr} {sl__law_pick : Array (Option Value)} {oc__law_pick kV__law_pick dc__law_pick pm__law_pick cd__law_pick ct__law_pick : Value}
    {f__law_divisor : Addr} {od__law_divisor an__law_divisor : Option Addr} {sl__law_divisor : Array (Option Value)} {oc__law_divisor kV__law_divisor dc__law_divisor pm__law_divisor cd__law_divisor ct__law_divisor : Value}
    {f__law_made : Addr} {od__law_made an__law_made : Option Addr} {sl__law_made : Array (Option Value)} {oc__law_made kV__law_made dc__law_made pm__law_made cd__law_made ct__law_made : Value}
    {f__law_same : Addr} {od__law_same an__law_same : Option Addr} {sl__law_same : Array (Option Value)} {oc__law_same kV__law_same dc__law_same pm__law_same cd__law_same ct__law_same : Value}
    {f__law_met : Addr} {od__law_met an__law_met : Option Addr} {sl__law_met : Array (Option Value)} {oc__law_met kV__law_met dc__law_met pm__law_met cd__law_met ct__law_met : Value}
    {f__law_integer : Addr} {od__law_integer an__law_integer : Option Addr} {sl__law_integer : Array (Option Value)} {oc__law_integer kV__law_integer dc__law_integer pm__law_integer cd__law_integer ct__law_integer : Value}
    {f__law_deep : Addr} {od__law_deep an__law_deep : Option Addr} {sl__law_deep : Array (Option Value)} {oc__law_deep kV__law_deep dc__law_deep pm__law_deep cd__law_deep ct__law_deep : Value}
    {f__law_strange : Addr} {od__law_strange an__law_strange : Option Addr} {sl__law_strange : Array (Option Value)} {oc__law_strange kV__law_strange dc__law_strange pm__law_strange cd__law_strange ct__law_strange : Value}
    {f__law_in_order : Addr} {od__law_in_order an__law_in_order : Option Addr} {sl__law_in_order : Array (Option Value)} {oc__law_in_order kV__law_in_order dc__law_in_order pm__law_in_order cd__law_in_order ct__law_in_order : Value}
    {f__law_steps : Addr} {od__law_steps an__law_steps : Option Addr} {sl__law_steps : Array (Option Value)} {oc__law_steps kV__law_steps dc__law_steps pm__law_steps cd__law_steps ct__law_steps : Value}
    {f__law_pipe : Addr} {od__law_pipe an__law_pipe : Option Addr} {sl__law_pipe : Array (Option Value)} {oc__law_pipe kV__law_pipe dc__law_pipe pm__law_pipe cd__law_pipe ct__law_pipe : Value}
    {f__law_with : Addr} {od__law_with an__law_with : Option Addr} {sl__law_with : Array (Option Value)} {oc__law_with kV__law_with dc__law_with pm__law_with cd__law_with ct__law_with : Value}
    {f__law_joins : Addr} {od__law_joins an__law_joins : Option Addr} {sl__law_joins : Array (Option Value)} {oc__law_joins kV__law_joins dc__law_joins pm__law_joins cd__law_joins ct__law_joins : Value}
    {f__law_sorts : Addr} {od__law_sorts an__law_sorts : Option Addr} {sl__law_sorts : Array (Option Value)} {oc__law_sorts kV__law_sorts dc__law_sorts pm__law_sorts cd__law_sorts ct__law_sorts : Value}
    {f__law_kinds : Addr} {od__law_kinds an__law_kinds : Option Addr} {sl__law_kinds : Array (Option Value)} {oc__law_kinds kV__law_kinds dc__law_kinds pm__law_kinds cd__law_kinds ct__law_kinds : Value}
    {f__law_woven : Addr} {od__law_woven an__law_woven : Option Addr} {sl__law_woven : Array (Option Value)} {oc__law_woven kV__law_woven dc__law_woven pm__law_woven cd__law_woven ct__law_woven : Value}
    {f__law_fault : Addr} {od__law_fault an__law_fault : Option Addr} {sl__law_fault : Array (Option Value)} {oc__law_fault kV__law_fault dc__law_fault pm__law_fault cd__law_fault ct__law_fault : Value}
    {f__law_told : Addr} {od__law_told an__law_told : Option Addr} {sl__law_told : Array (Option Value)} {oc__law_told kV__law_told dc__law_told pm__law_told cd__law_told ct__law_told : Value}
    {f__law_are_sorts_of : Addr} {od__law_are_sorts_of an__law_are_sorts_of : Option Addr} {sl__law_are_sorts_of : Array (Option Value)} {oc__law_are_sorts_of kV__law_are_sorts_of dc__law_are_sorts_of pm__law_are_sorts_of cd__law_are_sorts_of ct__law_are_sorts_of : Value}
    {f__law_changed : Addr} {od__law_changed an__law_changed : Option Addr} {sl__law_changed : Array (Option Value)} {oc__law_changed kV__law_changed dc__law_changed pm__law_changed cd__law_changed ct__law_changed : Value}
    {fi_NoSorts : Addr} {nm_NoSorts qn_NoSorts : Str} {N_NoSorts : Addr} {bs_NoSorts bm_NoSorts : List Value} {sn_NoSorts : List Str} {sub_NoSorts : List Value} {ab_NoSorts : Bool} {col_NoSorts : Option Bool} {dd_NoSorts : Option Addr} {m0_NoSorts m1_NoSorts m2_NoSorts m3_NoSorts m5_NoSorts : Option Value} {oci_NoSorts : Value} {odi_NoSorts : Option Addr} {dci_NoSorts pmi_NoSorts : Value} {ani_NoSorts : Option Addr} {cdi_NoSorts cti_NoSorts : Value} {sli_NoSorts : Array (Option Value)}
    {nm_BadBook qn_BadBook : Str} {N_BadBook : Addr} {bs_BadBook bm_BadBook : List Value} {sn_BadBook : List Str} {sub_BadBook : List Value} {ab_BadBook : Bool} {col_BadBook : Option Bool} {dd_BadBook : Option Addr} {m0_BadBook m1_BadBook m2_BadBook m3_BadBook m5_BadBook : Option Value}
    {f_BadBook__init__ : Addr} {od_BadBook__init__ an_BadBook__init__ : Option Addr} {sl_BadBook__init__ : Array (Option Value)} {oc_BadBook__init__ kV_BadBook__init__ dc_BadBook__init__ pm_BadBook__init__ cd_BadBook__init__ ct_BadBook__init__ : Value}
    {nm_BadWeb qn_BadWeb : Str} {N_BadWeb : Addr} {bs_BadWeb bm_BadWeb : List Value} {sn_BadWeb : List Str} {sub_BadWeb : List Value} {ab_BadWeb : Bool} {col_BadWeb : Option Bool} {dd_BadWeb : Option Addr} {m0_BadWeb m1_BadWeb m2_BadWeb m3_BadWeb m5_BadWeb : Option Value}
    {f_BadWeb__init__ : Addr} {od_BadWeb__init__ an_BadWeb__init__ : Option Addr} {sl_BadWeb__init__ : Array (Option Value)} {oc_BadWeb__init__ kV_BadWeb__init__ dc_BadWeb__init__ pm_BadWeb__init__ cd_BadWeb__init__ ct_BadWeb__init__ : Value}
    {t_MOST_BOTTOM : Tok}
    {t_MOST_CAP : Tok}
    {t_MOST_KINDS : Tok}
    {t_MOST_PIPES : Tok}
    {t_MOST_SORTS : Tok}
    {t_MOST_THRESHOLDS : Tok}
    {t_MOST_TOP : Tok}
    {t_MOST_VESSELS : Tok}
    {t_MOST_WIDTH : Tok}
    {f_law cL PL : Addr} {od_law an_law odL : Option Addr} {sl_law slL : Array (Option Value)} {oc_law kV_law dc_law pm_law ct_law : Value} {vsL : Array Value} {fiL : Str} {tfL : Tok} {flL : Int} {tgL : Tok} {inL : Bool} {txL : Int} {ttL : Tok}
    (aC_NoSorts : PySem.W.nsIn K mainGlobals "NoSorts" = some (some (.ref C_NoSorts)))
    (aC_Book : PySem.W.nsIn K mainGlobals "Book" = some (some (.ref C_Book)))
    (aC_Web : PySem.W.nsIn K mainGlobals "Web" = some (some (.ref C_Web)))
    (aC_TidesError : PySem.W.nsIn K mainGlobals "TidesError" = some (some (.ref C_TidesError)))
    (aC_NoSort : PySem.W.nsIn K mainGlobals "NoSort" = some (some (.ref C_NoSort)))
    (aC_BadBook : PySem.W.nsIn K mainGlobals "BadBook" = some (some (.ref C_BadBook)))
    (aC_BadWeb : PySem.W.nsIn K mainGlobals "BadWeb" = some (some (.ref C_BadWeb)))
    (a_is_integer : PySem.W.nsIn K mainGlobals "is_integer" = some (some (.ref f_is_integer)))
    (l_is_integer : K.lookup f_is_integer = some ⟨oc_is_integer, od_is_integer, .func (PySem.W.fnOf "is_integer" "is_integer" (defArgs s_is_integer) (defBody s_is_integer) (defScope s_is_integer) .none kV_is_integer dc_is_integer pm_is_integer an_is_integer cd_is_integer ct_is_integer), sl_is_integer⟩)
    (c_is_integer : PySem.W.codeIn K cd_is_integer "is_integer" = true)
    (k_is_integer : PySem.W.keepIn K (.ref f_is_integer) = true)
    (a_is_between : PySem.W.nsIn K mainGlobals "is_between" = some (some (.ref f_is_between)))
    (l_is_between : K.lookup f_is_between = some ⟨oc_is_between, od_is_between, .func (PySem.W.fnOf "is_between" "is_between" (defArgs s_is_between) (defBody s_is_between) (defScope s_is_between) .none kV_is_between dc_is_between pm_is_between an_is_between cd_is_between ct_is_between), sl_is_between⟩)
    (c_is_between : PySem.W.codeIn K cd_is_between "is_between" = true)
    (k_is_between : PySem.W.keepIn K (.ref f_is_between) = true)
    (a_is_tuple_of : PySem.W.nsIn K mainGlobals "is_tuple_of" = some (some (.ref f_is_tuple_of)))
    (l_is_tuple_of : K.lookup f_is_tuple_of = some ⟨oc_is_tuple_of, od_is_tuple_of, .func (PySem.W.fnOf "is_tuple_of" "is_tuple_of" (defArgs s_is_tuple_of) (defBody s_is_tuple_of) (defScope s_is_tuple_of) .none kV_is_tuple_of dc_is_tuple_of pm_is_tuple_of an_is_tuple_of cd_is_tuple_of ct_is_tuple_of), sl_is_tuple_of⟩)
    (c_is_tuple_of : PySem.W.codeIn K cd_is_tuple_of "is_tuple_of" = true)
    (k_is_tuple_of : PySem.W.keepIn K (.ref f_is_tuple_of) = true)
    (a_is_fraction : PySem.W.nsIn K mainGlobals "is_fraction" = some (some (.ref f_is_fraction)))
    (l_is_fraction : K.lookup f_is_fraction = some ⟨oc_is_fraction, od_is_fraction, .func (PySem.W.fnOf "is_fraction" "is_fraction" (defArgs s_is_fraction) (defBody s_is_fraction) (defScope s_is_fraction) .none kV_is_fraction dc_is_fraction pm_is_fraction an_is_fraction cd_is_fraction ct_is_fraction), sl_is_fraction⟩)
    (c_is_fraction : PySem.W.codeIn K cd_is_fraction "is_fraction" = true)
    (k_is_fraction : PySem.W.keepIn K (.ref f_is_fraction) = true)
    (a_at_most : PySem.W.nsIn K mainGlobals "at_most" = some (some (.ref f_at_most)))
    (l_at_most : K.lookup f_at_most = some ⟨oc_at_most, od_at_most, .func (PySem.W.fnOf "at_most" "at_most" (defArgs s_at_most) (defBody s_at_most) (defScope s_at_most) .none kV_at_most dc_at_most pm_at_most an_at_most cd_at_most ct_at_most), sl_at_most⟩)
    (c_at_most : PySem.W.codeIn K cd_at_most "at_most" = true)
    (k_at_most : PySem.W.keepIn K (.ref f_at_most) = true)
    (a_is_threshold : PySem.W.nsIn K mainGlobals "is_threshold" = some (some (.ref f_is_threshold)))
    (l_is_threshold : K.lookup f_is_threshold = some ⟨oc_is_threshold, od_is_threshold, .func (PySem.W.fnOf "is_threshold" "is_threshold" (defArgs s_is_threshold) (defBody s_is_threshold) (defScope s_is_threshold) .none kV_is_threshold dc_is_threshold pm_is_threshold an_is_threshold cd_is_threshold ct_is_threshold), sl_is_threshold⟩)
    (c_is_threshold : PySem.W.codeIn K cd_is_threshold "is_threshold" = true)
    (k_is_threshold : PySem.W.keepIn K (.ref f_is_threshold) = true)
    (a_is_list : PySem.W.nsIn K mainGlobals "is_list" = some (some (.ref f_is_list)))
    (l_is_list : K.lookup f_is_list = some ⟨oc_is_list, od_is_list, .func (PySem.W.fnOf "is_list" "is_list" (defArgs s_is_list) (defBody s_is_list) (defScope s_is_list) .none kV_is_list dc_is_list pm_is_list an_is_list cd_is_list ct_is_list), sl_is_list⟩)
    (c_is_list : PySem.W.codeIn K cd_is_list "is_list" = true)
    (k_is_list : PySem.W.keepIn K (.ref f_is_list) = true)
    (a_ascends : PySem.W.nsIn K mainGlobals "ascends" = some (some (.ref f_ascends)))
    (l_ascends : K.lookup f_ascends = some ⟨oc_ascends, od_ascends, .func (PySem.W.fnOf "ascends" "ascends" (defArgs s_ascends) (defBody s_ascends) (defScope s_ascends) .none kV_ascends dc_ascends pm_ascends an_ascends cd_ascends ct_ascends), sl_ascends⟩)
    (c_ascends : PySem.W.codeIn K cd_ascends "ascends" = true)
    (k_ascends : PySem.W.keepIn K (.ref f_ascends) = true)
    (a_is_width : PySem.W.nsIn K mainGlobals "is_width" = some (some (.ref f_is_width)))
    (l_is_width : K.lookup f_is_width = some ⟨oc_is_width, od_is_width, .func (PySem.W.fnOf "is_width" "is_width" (defArgs s_is_width) (defBody s_is_width) (defScope s_is_width) .none kV_is_width dc_is_width pm_is_width an_is_width cd_is_width ct_is_width), sl_is_width⟩)
    (c_is_width : PySem.W.codeIn K cd_is_width "is_width" = true)
    (k_is_width : PySem.W.keepIn K (.ref f_is_width) = true)
    (a_is_widths : PySem.W.nsIn K mainGlobals "is_widths" = some (some (.ref f_is_widths)))
    (l_is_widths : K.lookup f_is_widths = some ⟨oc_is_widths, od_is_widths, .func (PySem.W.fnOf "is_widths" "is_widths" (defArgs s_is_widths) (defBody s_is_widths) (defScope s_is_widths) .none kV_is_widths dc_is_widths pm_is_widths an_is_widths cd_is_widths ct_is_widths), sl_is_widths⟩)
    (c_is_widths : PySem.W.codeIn K cd_is_widths "is_widths" = true)
    (k_is_widths : PySem.W.keepIn K (.ref f_is_widths) = true)
    (a_is_pipe : PySem.W.nsIn K mainGlobals "is_pipe" = some (some (.ref f_is_pipe)))
    (l_is_pipe : K.lookup f_is_pipe = some ⟨oc_is_pipe, od_is_pipe, .func (PySem.W.fnOf "is_pipe" "is_pipe" (defArgs s_is_pipe) (defBody s_is_pipe) (defScope s_is_pipe) .none kV_is_pipe dc_is_pipe pm_is_pipe an_is_pipe cd_is_pipe ct_is_pipe), sl_is_pipe⟩)
    (c_is_pipe : PySem.W.codeIn K cd_is_pipe "is_pipe" = true)
    (k_is_pipe : PySem.W.keepIn K (.ref f_is_pipe) = true)
    (a_Web__init__ : PySem.W.findIn K (.ref C_Web) "__init__" = some (some (.ref f_Web__init__)))
    (l_Web__init__ : K.lookup f_Web__init__ = some ⟨oc_Web__init__, od_Web__init__, .func (PySem.W.fnOf "__init__" "Web.__init__" (defArgs s_Web__init__) (defBody s_Web__init__) (defScope s_Web__init__) .none kV_Web__init__ dc_Web__init__ pm_Web__init__ an_Web__init__ cd_Web__init__ ct_Web__init__), sl_Web__init__⟩)
    (c_Web__init__ : PySem.W.codeIn K cd_Web__init__ "Web.__init__" = true)
    (k_Web__init__ : PySem.W.keepIn K (.ref f_Web__init__) = true)
    (a_pipe_counts : PySem.W.nsIn K mainGlobals "pipe_counts" = some (some (.ref f_pipe_counts)))
    (l_pipe_counts : K.lookup f_pipe_counts = some ⟨oc_pipe_counts, od_pipe_counts, .func (PySem.W.fnOf "pipe_counts" "pipe_counts" (defArgs s_pipe_counts) (defBody s_pipe_counts) (defScope s_pipe_counts) .none kV_pipe_counts dc_pipe_counts pm_pipe_counts an_pipe_counts cd_pipe_counts ct_pipe_counts), sl_pipe_counts⟩)
    (c_pipe_counts : PySem.W.codeIn K cd_pipe_counts "pipe_counts" = true)
    (k_pipe_counts : PySem.W.keepIn K (.ref f_pipe_counts) = true)
    (a_is_sort : PySem.W.nsIn K mainGlobals "is_sort" = some (some (.ref f_is_sort)))
    (l_is_sort : K.lookup f_is_sort = some ⟨oc_is_sort, od_is_sort, .func (PySem.W.fnOf "is_sort" "is_sort" (defArgs s_is_sort) (defBody s_is_sort) (defScope s_is_sort) .none kV_is_sort dc_is_sort pm_is_sort an_is_sort cd_is_sort ct_is_sort), sl_is_sort⟩)
    (c_is_sort : PySem.W.codeIn K cd_is_sort "is_sort" = true)
    (k_is_sort : PySem.W.keepIn K (.ref f_is_sort) = true)
    (a_is_sort_tuple : PySem.W.nsIn K mainGlobals "is_sort_tuple" = some (some (.ref f_is_sort_tuple)))
    (l_is_sort_tuple : K.lookup f_is_sort_tuple = some ⟨oc_is_sort_tuple, od_is_sort_tuple, .func (PySem.W.fnOf "is_sort_tuple" "is_sort_tuple" (defArgs s_is_sort_tuple) (defBody s_is_sort_tuple) (defScope s_is_sort_tuple) .none kV_is_sort_tuple dc_is_sort_tuple pm_is_sort_tuple an_is_sort_tuple cd_is_sort_tuple ct_is_sort_tuple), sl_is_sort_tuple⟩)
    (c_is_sort_tuple : PySem.W.codeIn K cd_is_sort_tuple "is_sort_tuple" = true)
    (k_is_sort_tuple : PySem.W.keepIn K (.ref f_is_sort_tuple) = true)
    (a_is_join : PySem.W.nsIn K mainGlobals "is_join" = some (some (.ref f_is_join)))
    (l_is_join : K.lookup f_is_join = some ⟨oc_is_join, od_is_join, .func (PySem.W.fnOf "is_join" "is_join" (defArgs s_is_join) (defBody s_is_join) (defScope s_is_join) .none kV_is_join dc_is_join pm_is_join an_is_join cd_is_join ct_is_join), sl_is_join⟩)
    (c_is_join : PySem.W.codeIn K cd_is_join "is_join" = true)
    (k_is_join : PySem.W.keepIn K (.ref f_is_join) = true)
    (a_is_kind : PySem.W.nsIn K mainGlobals "is_kind" = some (some (.ref f_is_kind)))
    (l_is_kind : K.lookup f_is_kind = some ⟨oc_is_kind, od_is_kind, .func (PySem.W.fnOf "is_kind" "is_kind" (defArgs s_is_kind) (defBody s_is_kind) (defScope s_is_kind) .none kV_is_kind dc_is_kind pm_is_kind an_is_kind cd_is_kind ct_is_kind), sl_is_kind⟩)
    (c_is_kind : PySem.W.codeIn K cd_is_kind "is_kind" = true)
    (k_is_kind : PySem.W.keepIn K (.ref f_is_kind) = true)
    (a_Book__init__ : PySem.W.findIn K (.ref C_Book) "__init__" = some (some (.ref f_Book__init__)))
    (l_Book__init__ : K.lookup f_Book__init__ = some ⟨oc_Book__init__, od_Book__init__, .func (PySem.W.fnOf "__init__" "Book.__init__" (defArgs s_Book__init__) (defBody s_Book__init__) (defScope s_Book__init__) .none kV_Book__init__ dc_Book__init__ pm_Book__init__ an_Book__init__ cd_Book__init__ ct_Book__init__), sl_Book__init__⟩)
    (c_Book__init__ : PySem.W.codeIn K cd_Book__init__ "Book.__init__" = true)
    (k_Book__init__ : PySem.W.keepIn K (.ref f_Book__init__) = true)
    (a_may_join : PySem.W.nsIn K mainGlobals "may_join" = some (some (.ref f_may_join)))
    (l_may_join : K.lookup f_may_join = some ⟨oc_may_join, od_may_join, .func (PySem.W.fnOf "may_join" "may_join" (defArgs s_may_join) (defBody s_may_join) (defScope s_may_join) .none kV_may_join dc_may_join pm_may_join an_may_join cd_may_join ct_may_join), sl_may_join⟩)
    (c_may_join : PySem.W.codeIn K cd_may_join "may_join" = true)
    (k_may_join : PySem.W.keepIn K (.ref f_may_join) = true)
    (a_exceeds_cap : PySem.W.nsIn K mainGlobals "exceeds_cap" = some (some (.ref f_exceeds_cap)))
    (l_exceeds_cap : K.lookup f_exceeds_cap = some ⟨oc_exceeds_cap, od_exceeds_cap, .func (PySem.W.fnOf "exceeds_cap" "exceeds_cap" (defArgs s_exceeds_cap) (defBody s_exceeds_cap) (defScope s_exceeds_cap) .none kV_exceeds_cap dc_exceeds_cap pm_exceeds_cap an_exceeds_cap cd_exceeds_cap ct_exceeds_cap), sl_exceeds_cap⟩)
    (c_exceeds_cap : PySem.W.codeIn K cd_exceeds_cap "exceeds_cap" = true)
    (k_exceeds_cap : PySem.W.keepIn K (.ref f_exceeds_cap) = true)
    (a_is_sorts : PySem.W.nsIn K mainGlobals "is_sorts" = some (some (.ref f_is_sorts)))
    (l_is_sorts : K.lookup f_is_sorts = some ⟨oc_is_sorts, od_is_sorts, .func (PySem.W.fnOf "is_sorts" "is_sorts" (defArgs s_is_sorts) (defBody s_is_sorts) (defScope s_is_sorts) .none kV_is_sorts dc_is_sorts pm_is_sorts an_is_sorts cd_is_sorts ct_is_sorts), sl_is_sorts⟩)
    (c_is_sorts : PySem.W.codeIn K cd_is_sorts "is_sorts" = true)
    (k_is_sorts : PySem.W.keepIn K (.ref f_is_sorts) = true)
    (a_first_fault : PySem.W.nsIn K mainGlobals "first_fault" = some (some (.ref f_first_fault)))
    (l_first_fault : K.lookup f_first_fault = some ⟨oc_first_fault, od_first_fault, .func (PySem.W.fnOf "first_fault" "first_fault" (defArgs s_first_fault) (defBody s_first_fault) (defScope s_first_fault) .none kV_first_fault dc_first_fault pm_first_fault an_first_fault cd_first_fault ct_first_fault), sl_first_fault⟩)
    (c_first_fault : PySem.W.codeIn K cd_first_fault "first_fault" = true)
    (k_first_fault : PySem.W.keepIn K (.ref f_first_fault) = true)
    (a_fault : PySem.W.nsIn K mainGlobals "fault" = some (some (.ref f_fault)))
    (l_fault : K.lookup f_fault = some ⟨oc_fault, od_fault, .func (PySem.W.fnOf "fault" "fault" (defArgs s_fault) (defBody s_fault) (defScope s_fault) .none kV_fault dc_fault pm_fault an_fault cd_fault ct_fault), sl_fault⟩)
    (c_fault : PySem.W.codeIn K cd_fault "fault" = true)
    (k_fault : PySem.W.keepIn K (.ref f_fault) = true)
    (a__law_source : PySem.W.nsIn K mainGlobals "_law_source" = some (some (.ref f__law_source)))
    (l__law_source : K.lookup f__law_source = some ⟨oc__law_source, od__law_source, .func (PySem.W.fnOf "_law_source" "_law_source" (defArgs s__law_source) (defBody s__law_source) (defScope s__law_source) .none kV__law_source dc__law_source pm__law_source an__law_source cd__law_source ct__law_source), sl__law_source⟩)
    (c__law_source : PySem.W.codeIn K cd__law_source "_law_source" = true)
    (k__law_source : PySem.W.keepIn K (.ref f__law_source) = true)
    (a__law_mixed : PySem.W.nsIn K mainGlobals "_law_mixed" = some (some (.ref f__law_mixed)))
    (l__law_mixed : K.lookup f__law_mixed = some ⟨oc__law_mixed, od__law_mixed, .func (PySem.W.fnOf "_law_mixed" "_law_mixed" (defArgs s__law_mixed) (defBody s__law_mixed) (defScope s__law_mixed) .none kV__law_mixed dc__law_mixed pm__law_mixed an__law_mixed cd__law_mixed ct__law_mixed), sl__law_mixed⟩)
    (c__law_mixed : PySem.W.codeIn K cd__law_mixed "_law_mixed" = true)
    (k__law_mixed : PySem.W.keepIn K (.ref f__law_mixed) = true)
    (a__law_draw : PySem.W.nsIn K mainGlobals "_law_draw" = some (some (.ref f__law_draw)))
    (l__law_draw : K.lookup f__law_draw = some ⟨oc__law_draw, od__law_draw, .func (PySem.W.fnOf "_law_draw" "_law_draw" (defArgs s__law_draw) (defBody s__law_draw) (defScope s__law_draw) .none kV__law_draw dc__law_draw pm__law_draw an__law_draw cd__law_draw ct__law_draw), sl__law_draw⟩)
    (c__law_draw : PySem.W.codeIn K cd__law_draw "_law_draw" = true)
    (k__law_draw : PySem.W.keepIn K (.ref f__law_draw) = true)
    (a__law_pick : PySem.W.nsIn K mainGlobals "_law_pick" = some (some (.ref f__law_pick)))
    (l__law_pick : K.lookup f__law_pick = some ⟨oc__law_pick, od__law_pick, .func (PySem.W.fnOf "_law_pick" "_law_pick" (defArgs s__law_pick) (defBody s__law_pick) (defScope s__law_pick) .none kV__law_pick dc__law_pick pm__law_pick an__law_pick cd__law_pick ct__law_pick), sl__law_pick⟩)
    (c__law_pick : PySem.W.codeIn K cd__law_pick "_law_pick" = true)
    (k__law_pick : PySem.W.keepIn K (.ref f__law_pick) = true)
    (a__law_divisor : PySem.W.nsIn K mainGlobals "_law_divisor" = some (some (.ref f__law_divisor)))
    (l__law_divisor : K.lookup f__law_divisor = some ⟨oc__law_divisor, od__law_divisor, .func (PySem.W.fnOf "_law_divisor" "_law_divisor" (defArgs s__law_divisor) (defBody s__law_divisor) (defScope s__law_divisor) .none kV__law_divisor dc__law_divisor pm__law_divisor an__law_divisor cd__law_divisor ct__law_divisor), sl__law_divisor⟩)
    (c__law_divisor : PySem.W.codeIn K cd__law_divisor "_law_divisor" = true)
    (k__law_divisor : PySem.W.keepIn K (.ref f__law_divisor) = true)
    (a__law_made : PySem.W.nsIn K mainGlobals "_law_made" = some (some (.ref f__law_made)))
    (l__law_made : K.lookup f__law_made = some ⟨oc__law_made, od__law_made, .func (PySem.W.fnOf "_law_made" "_law_made" (defArgs s__law_made) (defBody s__law_made) (defScope s__law_made) .none kV__law_made dc__law_made pm__law_made an__law_made cd__law_made ct__law_made), sl__law_made⟩)
    (c__law_made : PySem.W.codeIn K cd__law_made "_law_made" = true)
    (k__law_made : PySem.W.keepIn K (.ref f__law_made) = true)
    (a__law_same : PySem.W.nsIn K mainGlobals "_law_same" = some (some (.ref f__law_same)))
    (l__law_same : K.lookup f__law_same = some ⟨oc__law_same, od__law_same, .func (PySem.W.fnOf "_law_same" "_law_same" (defArgs s__law_same) (defBody s__law_same) (defScope s__law_same) .none kV__law_same dc__law_same pm__law_same an__law_same cd__law_same ct__law_same), sl__law_same⟩)
    (c__law_same : PySem.W.codeIn K cd__law_same "_law_same" = true)
    (k__law_same : PySem.W.keepIn K (.ref f__law_same) = true)
    (a__law_met : PySem.W.nsIn K mainGlobals "_law_met" = some (some (.ref f__law_met)))
    (l__law_met : K.lookup f__law_met = some ⟨oc__law_met, od__law_met, .func (PySem.W.fnOf "_law_met" "_law_met" (defArgs s__law_met) (defBody s__law_met) (defScope s__law_met) .none kV__law_met dc__law_met pm__law_met an__law_met cd__law_met ct__law_met), sl__law_met⟩)
    (c__law_met : PySem.W.codeIn K cd__law_met "_law_met" = true)
    (k__law_met : PySem.W.keepIn K (.ref f__law_met) = true)
    (a__law_integer : PySem.W.nsIn K mainGlobals "_law_integer" = some (some (.ref f__law_integer)))
    (l__law_integer : K.lookup f__law_integer = some ⟨oc__law_integer, od__law_integer, .func (PySem.W.fnOf "_law_integer" "_law_integer" (defArgs s__law_integer) (defBody s__law_integer) (defScope s__law_integer) .none kV__law_integer dc__law_integer pm__law_integer an__law_integer cd__law_integer ct__law_integer), sl__law_integer⟩)
    (c__law_integer : PySem.W.codeIn K cd__law_integer "_law_integer" = true)
    (k__law_integer : PySem.W.keepIn K (.ref f__law_integer) = true)
    (a__law_deep : PySem.W.nsIn K mainGlobals "_law_deep" = some (some (.ref f__law_deep)))
    (l__law_deep : K.lookup f__law_deep = some ⟨oc__law_deep, od__law_deep, .func (PySem.W.fnOf "_law_deep" "_law_deep" (defArgs s__law_deep) (defBody s__law_deep) (defScope s__law_deep) .none kV__law_deep dc__law_deep pm__law_deep an__law_deep cd__law_deep ct__law_deep), sl__law_deep⟩)
    (c__law_deep : PySem.W.codeIn K cd__law_deep "_law_deep" = true)
    (k__law_deep : PySem.W.keepIn K (.ref f__law_deep) = true)
    (a__law_strange : PySem.W.nsIn K mainGlobals "_law_strange" = some (some (.ref f__law_strange)))
    (l__law_strange : K.lookup f__law_strange = some ⟨oc__law_strange, od__law_strange, .func (PySem.W.fnOf "_law_strange" "_law_strange" (defArgs s__law_strange) (defBody s__law_strange) (defScope s__law_strange) .none kV__law_strange dc__law_strange pm__law_strange an__law_strange cd__law_strange ct__law_strange), sl__law_strange⟩)
    (c__law_strange : PySem.W.codeIn K cd__law_strange "_law_strange" = true)
    (k__law_strange : PySem.W.keepIn K (.ref f__law_strange) = true)
    (a__law_in_order : PySem.W.nsIn K mainGlobals "_law_in_order" = some (some (.ref f__law_in_order)))
    (l__law_in_order : K.lookup f__law_in_order = some ⟨oc__law_in_order, od__law_in_order, .func (PySem.W.fnOf "_law_in_order" "_law_in_order" (defArgs s__law_in_order) (defBody s__law_in_order) (defScope s__law_in_order) .none kV__law_in_order dc__law_in_order pm__law_in_order an__law_in_order cd__law_in_order ct__law_in_order), sl__law_in_order⟩)
    (c__law_in_order : PySem.W.codeIn K cd__law_in_order "_law_in_order" = true)
    (k__law_in_order : PySem.W.keepIn K (.ref f__law_in_order) = true)
    (a__law_steps : PySem.W.nsIn K mainGlobals "_law_steps" = some (some (.ref f__law_steps)))
    (l__law_steps : K.lookup f__law_steps = some ⟨oc__law_steps, od__law_steps, .func (PySem.W.fnOf "_law_steps" "_law_steps" (defArgs s__law_steps) (defBody s__law_steps) (defScope s__law_steps) .none kV__law_steps dc__law_steps pm__law_steps an__law_steps cd__law_steps ct__law_steps), sl__law_steps⟩)
    (c__law_steps : PySem.W.codeIn K cd__law_steps "_law_steps" = true)
    (k__law_steps : PySem.W.keepIn K (.ref f__law_steps) = true)
    (a__law_pipe : PySem.W.nsIn K mainGlobals "_law_pipe" = some (some (.ref f__law_pipe)))
    (l__law_pipe : K.lookup f__law_pipe = some ⟨oc__law_pipe, od__law_pipe, .func (PySem.W.fnOf "_law_pipe" "_law_pipe" (defArgs s__law_pipe) (defBody s__law_pipe) (defScope s__law_pipe) .none kV__law_pipe dc__law_pipe pm__law_pipe an__law_pipe cd__law_pipe ct__law_pipe), sl__law_pipe⟩)
    (c__law_pipe : PySem.W.codeIn K cd__law_pipe "_law_pipe" = true)
    (k__law_pipe : PySem.W.keepIn K (.ref f__law_pipe) = true)
    (a__law_with : PySem.W.nsIn K mainGlobals "_law_with" = some (some (.ref f__law_with)))
    (l__law_with : K.lookup f__law_with = some ⟨oc__law_with, od__law_with, .func (PySem.W.fnOf "_law_with" "_law_with" (defArgs s__law_with) (defBody s__law_with) (defScope s__law_with) .none kV__law_with dc__law_with pm__law_with an__law_with cd__law_with ct__law_with), sl__law_with⟩)
    (c__law_with : PySem.W.codeIn K cd__law_with "_law_with" = true)
    (k__law_with : PySem.W.keepIn K (.ref f__law_with) = true)
    (a__law_joins : PySem.W.nsIn K mainGlobals "_law_joins" = some (some (.ref f__law_joins)))
    (l__law_joins : K.lookup f__law_joins = some ⟨oc__law_joins, od__law_joins, .func (PySem.W.fnOf "_law_joins" "_law_joins" (defArgs s__law_joins) (defBody s__law_joins) (defScope s__law_joins) .none kV__law_joins dc__law_joins pm__law_joins an__law_joins cd__law_joins ct__law_joins), sl__law_joins⟩)
    (c__law_joins : PySem.W.codeIn K cd__law_joins "_law_joins" = true)
    (k__law_joins : PySem.W.keepIn K (.ref f__law_joins) = true)
    (a__law_sorts : PySem.W.nsIn K mainGlobals "_law_sorts" = some (some (.ref f__law_sorts)))
    (l__law_sorts : K.lookup f__law_sorts = some ⟨oc__law_sorts, od__law_sorts, .func (PySem.W.fnOf "_law_sorts" "_law_sorts" (defArgs s__law_sorts) (defBody s__law_sorts) (defScope s__law_sorts) .none kV__law_sorts dc__law_sorts pm__law_sorts an__law_sorts cd__law_sorts ct__law_sorts), sl__law_sorts⟩)
    (c__law_sorts : PySem.W.codeIn K cd__law_sorts "_law_sorts" = true)
    (k__law_sorts : PySem.W.keepIn K (.ref f__law_sorts) = true)
    (a__law_kinds : PySem.W.nsIn K mainGlobals "_law_kinds" = some (some (.ref f__law_kinds)))
    (l__law_kinds : K.lookup f__law_kinds = some ⟨oc__law_kinds, od__law_kinds, .func (PySem.W.fnOf "_law_kinds" "_law_kinds" (defArgs s__law_kinds) (defBody s__law_kinds) (defScope s__law_kinds) .none kV__law_kinds dc__law_kinds pm__law_kinds an__law_kinds cd__law_kinds ct__law_kinds), sl__law_kinds⟩)
    (c__law_kinds : PySem.W.codeIn K cd__law_kinds "_law_kinds" = true)
    (k__law_kinds : PySem.W.keepIn K (.ref f__law_kinds) = true)
    (a__law_woven : PySem.W.nsIn K mainGlobals "_law_woven" = some (some (.ref f__law_woven)))
    (l__law_woven : K.lookup f__law_woven = some ⟨oc__law_woven, od__law_woven, .func (PySem.W.fnOf "_law_woven" "_law_woven" (defArgs s__law_woven) (defBody s__law_woven) (defScope s__law_woven) .none kV__law_woven dc__law_woven pm__law_woven an__law_woven cd__law_woven ct__law_woven), sl__law_woven⟩)
    (c__law_woven : PySem.W.codeIn K cd__law_woven "_law_woven" = true)
    (k__law_woven : PySem.W.keepIn K (.ref f__law_woven) = true)
    (a__law_fault : PySem.W.nsIn K mainGlobals "_law_fault" = some (some (.ref f__law_fault)))
    (l__law_fault : K.lookup f__law_fault = some ⟨oc__law_fault, od__law_fault, .func (PySem.W.fnOf "_law_fault" "_law_fault" (defArgs s__law_fault) (defBody s__law_fault) (defScope s__law_fault) .none kV__law_fault dc__law_fault pm__law_fault an__law_fault cd__law_fault ct__law_fault), sl__law_fault⟩)
    (c__law_fault : PySem.W.codeIn K cd__law_fault "_law_fault" = true)
    (k__law_fault : PySem.W.keepIn K (.ref f__law_fault) = true)
    (a__law_told : PySem.W.nsIn K mainGlobals "_law_told" = some (some (.ref f__law_told)))
    (l__law_told : K.lookup f__law_told = some ⟨oc__law_told, od__law_told, .func (PySem.W.fnOf "_law_told" "_law_told" (defArgs s__law_told) (defBody s__law_told) (defScope s__law_told) .none kV__law_told dc__law_told pm__law_told an__law_told cd__law_told ct__law_told), sl__law_told⟩)
    (c__law_told : PySem.W.codeIn K cd__law_told "_law_told" = true)
    (k__law_told : PySem.W.keepIn K (.ref f__law_told) = true)
    (a__law_are_sorts_of : PySem.W.nsIn K mainGlobals "_law_are_sorts_of" = some (some (.ref f__law_are_sorts_of)))
    (l__law_are_sorts_of : K.lookup f__law_are_sorts_of = some ⟨oc__law_are_sorts_of, od__law_are_sorts_of, .func (PySem.W.fnOf "_law_are_sorts_of" "_law_are_sorts_of" (defArgs s__law_are_sorts_of) (defBody s__law_are_sorts_of) (defScope s__law_are_sorts_of) .none kV__law_are_sorts_of dc__law_are_sorts_of pm__law_are_sorts_of an__law_are_sorts_of cd__law_are_sorts_of ct__law_are_sorts_of), sl__law_are_sorts_of⟩)
    (c__law_are_sorts_of : PySem.W.codeIn K cd__law_are_sorts_of "_law_are_sorts_of" = true)
    (k__law_are_sorts_of : PySem.W.keepIn K (.ref f__law_are_sorts_of) = true)
    (a__law_changed : PySem.W.nsIn K mainGlobals "_law_changed" = some (some (.ref f__law_changed)))
    (l__law_changed : K.lookup f__law_changed = some ⟨oc__law_changed, od__law_changed, .func (PySem.W.fnOf "_law_changed" "_law_changed" (defArgs s__law_changed) (defBody s__law_changed) (defScope s__law_changed) .none kV__law_changed dc__law_changed pm__law_changed an__law_changed cd__law_changed ct__law_changed), sl__law_changed⟩)
    (c__law_changed : PySem.W.codeIn K cd__law_changed "_law_changed" = true)
    (k__law_changed : PySem.W.keepIn K (.ref f__law_changed) = true)
    (xL_NoSorts : K.lookup C_NoSorts = some (excClassObj nm_NoSorts qn_NoSorts C_NoSorts N_NoSorts bs_NoSorts bm_NoSorts true sn_NoSorts sub_NoSorts ab_NoSorts col_NoSorts dd_NoSorts m0_NoSorts m1_NoSorts m2_NoSorts m3_NoSorts m5_NoSorts "ValueError.__new__"))
    (xr_NoSorts : refsVE bm_NoSorts = true)
    (xi_NoSorts : PySem.W.findIn K (.ref C_NoSorts) "__init__" = some (some (.ref fi_NoSorts)))
    (xt_NoSorts : PySem.W.typeIn K (.ref fi_NoSorts) = some (.type "function"))
    (xk_NoSorts : PySem.W.keepIn K (.ref C_NoSorts) = true)
    (xs_NoSorts : PySem.W.subIn K (.ref C_NoSorts) (.type "BaseException") = some true)
    (xy_NoSorts : PySem.W.typeIn K (.ref C_NoSorts) = some (.type "type"))
    (xf_NoSorts : K.lookup fi_NoSorts = some ⟨oci_NoSorts, odi_NoSorts, .func (PySem.W.fnOf "__init__" "NoSorts.__init__" (L3.xA ⟨31, 17, 31, 21⟩) (L3.xB ⟨32, 8, 32, 12⟩) L3.xS .none .none dci_NoSorts pmi_NoSorts ani_NoSorts cdi_NoSorts cti_NoSorts), sli_NoSorts⟩)
    (xc_NoSorts : PySem.W.codeIn K cdi_NoSorts "NoSorts.__init__" = true)
    (xL_BadBook : K.lookup C_BadBook = some (excClassObj nm_BadBook qn_BadBook C_BadBook N_BadBook bs_BadBook bm_BadBook true sn_BadBook sub_BadBook ab_BadBook col_BadBook dd_BadBook m0_BadBook m1_BadBook m2_BadBook m3_BadBook m5_BadBook "ValueError.__new__"))
    (xr_BadBook : refsVE bm_BadBook = true)
    (xi_BadBook : PySem.W.findIn K (.ref C_BadBook) "__init__" = some (some (.ref f_BadBook__init__)))
    (l_BadBook__init__ : K.lookup f_BadBook__init__ = some ⟨oc_BadBook__init__, od_BadBook__init__, .func (PySem.W.fnOf "__init__" "BadBook.__init__" (defArgs sx_BadBook) (defBody sx_BadBook) (defScope sx_BadBook) .none kV_BadBook__init__ dc_BadBook__init__ pm_BadBook__init__ an_BadBook__init__ cd_BadBook__init__ ct_BadBook__init__), sl_BadBook__init__⟩)
    (c_BadBook__init__ : PySem.W.codeIn K cd_BadBook__init__ "BadBook.__init__" = true)
    (k_BadBook__init__ : PySem.W.keepIn K (.ref f_BadBook__init__) = true)
    (xt_BadBook : PySem.W.typeIn K (.ref f_BadBook__init__) = some (.type "function"))
    (xk_BadBook : PySem.W.keepIn K (.ref C_BadBook) = true)
    (xs_BadBook : PySem.W.subIn K (.ref C_BadBook) (.type "BaseException") = some true)
    (xy_BadBook : PySem.W.typeIn K (.ref C_BadBook) = some (.type "type"))
    (xsa_BadBook : PySem.W.findIn K (.ref C_BadBook) "__setattr__" = some (some (.builtin "object.__setattr__")))
    (xga_BadBook : PySem.W.findIn K (.ref C_BadBook) "__getattribute__" = some (some (.builtin "BaseException.__getattribute__")))
    (xgg_BadBook : PySem.W.findIn K (.ref C_BadBook) "__getattr__" = some none)
    (xhd_BadBook : PySem.W.hasDictIn K C_BadBook = true)
    (no_BadBook : PySem.W.findIn K (.ref C_BadBook) "part" = some none)
    (xL_BadWeb : K.lookup C_BadWeb = some (excClassObj nm_BadWeb qn_BadWeb C_BadWeb N_BadWeb bs_BadWeb bm_BadWeb true sn_BadWeb sub_BadWeb ab_BadWeb col_BadWeb dd_BadWeb m0_BadWeb m1_BadWeb m2_BadWeb m3_BadWeb m5_BadWeb "ValueError.__new__"))
    (xr_BadWeb : refsVE bm_BadWeb = true)
    (xi_BadWeb : PySem.W.findIn K (.ref C_BadWeb) "__init__" = some (some (.ref f_BadWeb__init__)))
    (l_BadWeb__init__ : K.lookup f_BadWeb__init__ = some ⟨oc_BadWeb__init__, od_BadWeb__init__, .func (PySem.W.fnOf "__init__" "BadWeb.__init__" (defArgs sx_BadWeb) (defBody sx_BadWeb) (defScope sx_BadWeb) .none kV_BadWeb__init__ dc_BadWeb__init__ pm_BadWeb__init__ an_BadWeb__init__ cd_BadWeb__init__ ct_BadWeb__init__), sl_BadWeb__init__⟩)
    (c_BadWeb__init__ : PySem.W.codeIn K cd_BadWeb__init__ "BadWeb.__init__" = true)
    (k_BadWeb__init__ : PySem.W.keepIn K (.ref f_BadWeb__init__) = true)
    (xt_BadWeb : PySem.W.typeIn K (.ref f_BadWeb__init__) = some (.type "function"))
    (xk_BadWeb : PySem.W.keepIn K (.ref C_BadWeb) = true)
    (xs_BadWeb : PySem.W.subIn K (.ref C_BadWeb) (.type "BaseException") = some true)
    (xy_BadWeb : PySem.W.typeIn K (.ref C_BadWeb) = some (.type "type"))
    (xsa_BadWeb : PySem.W.findIn K (.ref C_BadWeb) "__setattr__" = some (some (.builtin "object.__setattr__")))
    (xga_BadWeb : PySem.W.findIn K (.ref C_BadWeb) "__getattribute__" = some (some (.builtin "BaseException.__getattribute__")))
    (xgg_BadWeb : PySem.W.findIn K (.ref C_BadWeb) "__getattr__" = some none)
    (xhd_BadWeb : PySem.W.hasDictIn K C_BadWeb = true)
    (no_BadWeb : PySem.W.findIn K (.ref C_BadWeb) "part" = some none)
    (wm_Book : PySem.W.makesIn K C_Book = true)
    (wf_Book : PySem.W.isFn K (.ref f_Book__init__) = true)
    (wk_Book : PySem.W.keepIn K (.ref C_Book) = true)
    (wp_Book : PySem.W.plainGet K C_Book Str.empty = true)
    (wd_Book : PySem.W.hasDictIn K C_Book = true)
    (wo_Book : PySem.W.plainOver K C_Book = true)
    (ws_Book : PySem.W.findIn K (.ref C_Book) "__setattr__" = some (some (.builtin "object.__setattr__")))
    (wc_Book : PySem.W.findIn K (.ref C_Book) "__class__" = some (some (.builtin "object.__class__")))
    (wg_Book : PySem.W.specialIn K (.builtin "object.__class__") "__get__" = some (some (.builtin "getset_descriptor.__get__")))
    (wt_Book : PySem.W.takesIn K (.builtin "object.__class__") = some true)
    (wr_Book : PySem.W.mroIn K C_Book (.type "object") = some true)
    (wint_Book : PySem.W.subIn K (.ref C_Book) (.type "int") = some false)
    (wbool_Book : PySem.W.subIn K (.ref C_Book) (.type "bool") = some false)
    (wstr_Book : PySem.W.subIn K (.ref C_Book) (.type "str") = some false)
    (wtuple_Book : PySem.W.subIn K (.ref C_Book) (.type "tuple") = some false)
    (wlist_Book : PySem.W.subIn K (.ref C_Book) (.type "list") = some false)
    (wm_Web : PySem.W.makesIn K C_Web = true)
    (wf_Web : PySem.W.isFn K (.ref f_Web__init__) = true)
    (wk_Web : PySem.W.keepIn K (.ref C_Web) = true)
    (wp_Web : PySem.W.plainGet K C_Web Str.empty = true)
    (wd_Web : PySem.W.hasDictIn K C_Web = true)
    (wo_Web : PySem.W.plainOver K C_Web = true)
    (ws_Web : PySem.W.findIn K (.ref C_Web) "__setattr__" = some (some (.builtin "object.__setattr__")))
    (wc_Web : PySem.W.findIn K (.ref C_Web) "__class__" = some (some (.builtin "object.__class__")))
    (wg_Web : PySem.W.specialIn K (.builtin "object.__class__") "__get__" = some (some (.builtin "getset_descriptor.__get__")))
    (wt_Web : PySem.W.takesIn K (.builtin "object.__class__") = some true)
    (wr_Web : PySem.W.mroIn K C_Web (.type "object") = some true)
    (wint_Web : PySem.W.subIn K (.ref C_Web) (.type "int") = some false)
    (wbool_Web : PySem.W.subIn K (.ref C_Web) (.type "bool") = some false)
    (wstr_Web : PySem.W.subIn K (.ref C_Web) (.type "str") = some false)
    (wtuple_Web : PySem.W.subIn K (.ref C_Web) (.type "tuple") = some false)
    (wlist_Web : PySem.W.subIn K (.ref C_Web) (.type "list") = some false)
    (na_Book_kinds : PySem.W.findIn K (.ref C_Book) "kinds" = some none)
    (na_Book_sorts : PySem.W.findIn K (.ref C_Book) "sorts" = some none)
    (na_Web_pipes : PySem.W.findIn K (.ref C_Web) "pipes" = some none)
    (na_Web_widths : PySem.W.findIn K (.ref C_Web) "widths" = some none)
    (z_abs : PySem.W.nsIn K mainGlobals "abs" = some none)
    (z_all : PySem.W.nsIn K mainGlobals "all" = some none)
    (z_any : PySem.W.nsIn K mainGlobals "any" = some none)
    (z_bool : PySem.W.nsIn K mainGlobals "bool" = some none)
    (z_enumerate : PySem.W.nsIn K mainGlobals "enumerate" = some none)
    (z_int : PySem.W.nsIn K mainGlobals "int" = some none)
    (z_isinstance : PySem.W.nsIn K mainGlobals "isinstance" = some none)
    (z_len : PySem.W.nsIn K mainGlobals "len" = some none)
    (z_list : PySem.W.nsIn K mainGlobals "list" = some none)
    (z_max : PySem.W.nsIn K mainGlobals "max" = some none)
    (z_min : PySem.W.nsIn K mainGlobals "min" = some none)
    (z_range : PySem.W.nsIn K mainGlobals "range" = some none)
    (z_sorted : PySem.W.nsIn K mainGlobals "sorted" = some none)
    (z_str : PySem.W.nsIn K mainGlobals "str" = some none)
    (z_tuple : PySem.W.nsIn K mainGlobals "tuple" = some none)
    (z_zip : PySem.W.nsIn K mainGlobals "zip" = some none)
    (n_MOST_BOTTOM : PySem.W.nsIn K mainGlobals "MOST_BOTTOM" = some (some (.int 144 t_MOST_BOTTOM)))
    (n_MOST_CAP : PySem.W.nsIn K mainGlobals "MOST_CAP" = some (some (.int 6 t_MOST_CAP)))
    (n_MOST_KINDS : PySem.W.nsIn K mainGlobals "MOST_KINDS" = some (some (.int 5 t_MOST_KINDS)))
    (n_MOST_PIPES : PySem.W.nsIn K mainGlobals "MOST_PIPES" = some (some (.int 36 t_MOST_PIPES)))
    (n_MOST_SORTS : PySem.W.nsIn K mainGlobals "MOST_SORTS" = some (some (.int 4 t_MOST_SORTS)))
    (n_MOST_THRESHOLDS : PySem.W.nsIn K mainGlobals "MOST_THRESHOLDS" = some (some (.int 6 t_MOST_THRESHOLDS)))
    (n_MOST_TOP : PySem.W.nsIn K mainGlobals "MOST_TOP" = some (some (.int 1000000 t_MOST_TOP)))
    (n_MOST_VESSELS : PySem.W.nsIn K mainGlobals "MOST_VESSELS" = some (some (.int 12 t_MOST_VESSELS)))
    (n_MOST_WIDTH : PySem.W.nsIn K mainGlobals "MOST_WIDTH" = some (some (.int 12 t_MOST_WIDTH)))
    (m_gcd : PySem.W.nsIn K mainGlobals "gcd" = some (some (.builtin "math.gcd")))
    (tg_NoSorts : PySem.W.findIn K (.ref C_NoSorts) "__getattribute__" = some (some (.builtin "BaseException.__getattribute__")))
    (tk_NoSorts : PySem.W.findIn K (.ref C_NoSorts) "__getattr__" = some none)
    (td_NoSorts : PySem.W.hasDictIn K C_NoSorts = true)
    (ta_NoSorts : PySem.W.findIn K (.ref C_NoSorts) "__class__" = some (some (.builtin "object.__class__")))
    (tn_NoSorts : PySem.W.specialIn K (.builtin "object.__class__") "__get__" = some (some (.builtin "getset_descriptor.__get__")))
    (tt_NoSorts : PySem.W.takesIn K (.builtin "object.__class__") = some true)
    (tm_NoSorts : PySem.W.mroIn K C_NoSorts (.type "object") = some true)
    (te_NoSorts : PySem.W.subIn K (.ref C_NoSorts) (.ref C_TidesError) = some true)
    (t1_NoSorts : PySem.W.subIn K (.ref C_NoSorts) (.ref C_NoSorts) = some true)
    (t2_NoSorts : PySem.W.subIn K (.ref C_NoSorts) (.ref C_NoSort) = some false)
    (u2_NoSorts : (Value.ref C_NoSorts == Value.ref C_NoSort) = false)
    (t3_NoSorts : PySem.W.subIn K (.ref C_NoSorts) (.ref C_BadBook) = some false)
    (u3_NoSorts : (Value.ref C_NoSorts == Value.ref C_BadBook) = false)
    (ti_BadBook : PySem.W.isClsIn K C_BadBook = true)
    (ty_BadBook : PySem.W.typeIn K (.ref C_BadBook) = some (.type "type"))
    (ti_NoSort : PySem.W.isClsIn K C_NoSort = true)
    (ty_NoSort : PySem.W.typeIn K (.ref C_NoSort) = some (.type "type"))
    (ti_NoSorts : PySem.W.isClsIn K C_NoSorts = true)
    (ty_NoSorts : PySem.W.typeIn K (.ref C_NoSorts) = some (.type "type"))
    (es_TE : PySem.W.subIn K (.ref C_TidesError) (.type "BaseException") = some true)
    (eh_TE : PySem.W.hasDictIn K C_TidesError = true)
    (ey_TE : PySem.W.typeIn K (.ref C_TidesError) = some (.type "type"))
    (a_law : PySem.W.nsIn K mainGlobals "law" = some (some (.ref f_law)))
    (l_law : K.lookup f_law = some ⟨oc_law, od_law, .func (PySem.W.fnOf "law" "law" (defArgs s_law) (defBody s_law) (defScope s_law) .none kV_law dc_law pm_law an_law (.ref cL) ct_law), sl_law⟩)
    (lC : K.lookup cL = some ⟨.type "code", odL, .fields vsL, slL⟩)
    (v11 : vsL[11]? = some (.ref PL))
    (g11 : vsL.getD 11 .none = .ref PL)
    (g18 : vsL.getD 18 .none = .str fiL tfL)
    (g7 : vsL.getD 7 .none = .int flL tgL)
    (g9 : vsL.getD 9 .none = .bool inL)
    (g10 : vsL.getD 10 .none = .int txL ttL)
    (neL : cL ≠ PL)
    (c_law : PySem.W.codeIn K (.ref cL) "law" = true)
    (hP : h.get? PL = some { cls := .none, data := .fields #[] }) (nP : K.lookup PL = none) : LamX.LawAtS l w K (L2.CX l.prog w) 10 63 "script" mg fa h := by
  have e := hfa.symm.trans (PySem.W.mg_of X G a_law)
  cases e
  have F_is_integer := fun_mk (st := s_is_integer) l_is_integer c_is_integer k_is_integer
  have F_is_between := fun_mk (st := s_is_between) l_is_between c_is_between k_is_between
  have F_is_tuple_of := fun_mk (st := s_is_tuple_of) l_is_tuple_of c_is_tuple_of k_is_tuple_of
  have F_is_fraction := fun_mk (st := s_is_fraction) l_is_fraction c_is_fraction k_is_fraction
  have F_at_most := fun_mk (st := s_at_most) l_at_most c_at_most k_at_most
  have F_is_threshold := fun_mk (st := s_is_threshold) l_is_threshold c_is_threshold k_is_threshold
  have F_is_list := fun_mk (st := s_is_list) l_is_list c_is_list k_is_list
  have F_ascends := fun_mk (st := s_ascends) l_ascends c_ascends k_ascends
  have F_is_width := fun_mk (st := s_is_width) l_is_width c_is_width k_is_width
  have F_is_widths := fun_mk (st := s_is_widths) l_is_widths c_is_widths k_is_widths
  have F_is_pipe := fun_mk (st := s_is_pipe) l_is_pipe c_is_pipe k_is_pipe
  have F_Web__init__ := fun_mk (st := s_Web__init__) l_Web__init__ c_Web__init__ k_Web__init__
  have F_pipe_counts := fun_mk (st := s_pipe_counts) l_pipe_counts c_pipe_counts k_pipe_counts
  have F_is_sort := fun_mk (st := s_is_sort) l_is_sort c_is_sort k_is_sort
  have F_is_sort_tuple := fun_mk (st := s_is_sort_tuple) l_is_sort_tuple c_is_sort_tuple k_is_sort_tuple
  have F_is_join := fun_mk (st := s_is_join) l_is_join c_is_join k_is_join
  have F_is_kind := fun_mk (st := s_is_kind) l_is_kind c_is_kind k_is_kind
  have F_Book__init__ := fun_mk (st := s_Book__init__) l_Book__init__ c_Book__init__ k_Book__init__
  have F_may_join := fun_mk (st := s_may_join) l_may_join c_may_join k_may_join
  have F_exceeds_cap := fun_mk (st := s_exceeds_cap) l_exceeds_cap c_exceeds_cap k_exceeds_cap
  have F_is_sorts := fun_mk (st := s_is_sorts) l_is_sorts c_is_sorts k_is_sorts
  have F_first_fault := fun_mk (st := s_first_fault) l_first_fault c_first_fault k_first_fault
  have F_fault := fun_mk (st := s_fault) l_fault c_fault k_fault
  have F__law_source := fun_mk (st := s__law_source) l__law_source c__law_source k__law_source
  have F__law_mixed := fun_mk (st := s__law_mixed) l__law_mixed c__law_mixed k__law_mixed
  have F__law_draw := fun_mk (st := s__law_draw) l__law_draw c__law_draw k__law_draw
  have F__law_pick := fun_mk (st := s__law_pick) l__law_pick c__law_pick k__law_pick
  have F__law_divisor := fun_mk (st := s__law_divisor) l__law_divisor c__law_divisor k__law_divisor
  have F__law_made := fun_mk (st := s__law_made) l__law_made c__law_made k__law_made
  have F__law_same := fun_mk (st := s__law_same) l__law_same c__law_same k__law_same
  have F__law_met := fun_mk (st := s__law_met) l__law_met c__law_met k__law_met
  have F__law_integer := fun_mk (st := s__law_integer) l__law_integer c__law_integer k__law_integer
  have F__law_deep := fun_mk (st := s__law_deep) l__law_deep c__law_deep k__law_deep
  have F__law_strange := fun_mk (st := s__law_strange) l__law_strange c__law_strange k__law_strange
  have F__law_in_order := fun_mk (st := s__law_in_order) l__law_in_order c__law_in_order k__law_in_order
  have F__law_steps := fun_mk (st := s__law_steps) l__law_steps c__law_steps k__law_steps
  have F__law_pipe := fun_mk (st := s__law_pipe) l__law_pipe c__law_pipe k__law_pipe
  have F__law_with := fun_mk (st := s__law_with) l__law_with c__law_with k__law_with
  have F__law_joins := fun_mk (st := s__law_joins) l__law_joins c__law_joins k__law_joins
  have F__law_sorts := fun_mk (st := s__law_sorts) l__law_sorts c__law_sorts k__law_sorts
  have F__law_kinds := fun_mk (st := s__law_kinds) l__law_kinds c__law_kinds k__law_kinds
  have F__law_woven := fun_mk (st := s__law_woven) l__law_woven c__law_woven k__law_woven
  have F__law_fault := fun_mk (st := s__law_fault) l__law_fault c__law_fault k__law_fault
  have F__law_told := fun_mk (st := s__law_told) l__law_told c__law_told k__law_told
  have F__law_are_sorts_of := fun_mk (st := s__law_are_sorts_of) l__law_are_sorts_of c__law_are_sorts_of k__law_are_sorts_of
  have F__law_changed := fun_mk (st := s__law_changed) l__law_changed c__law_changed k__law_changed
  have F_BadBook__init__ := fun_mk (st := sx_BadBook) l_BadBook__init__ c_BadBook__init__ k_BadBook__init__
  have oxf_BadBook : L2.XfC K C_BadBook := ⟨xga_BadBook, xgg_BadBook, xs_BadBook, xhd_BadBook⟩
  have F_BadWeb__init__ := fun_mk (st := sx_BadWeb) l_BadWeb__init__ c_BadWeb__init__ k_BadWeb__init__
  have oxf_BadWeb : L2.XfC K C_BadWeb := ⟨xga_BadWeb, xgg_BadWeb, xs_BadWeb, xhd_BadWeb⟩
  have okw_Book : OkD K (.oth (.ref C_Book)) := by
    unfold OkD
    intro n hn
    have five : n = "int" ∨ n = "bool" ∨ n = "str" ∨ n = "tuple" ∨ n = "list" := by simpa [kinds] using hn
    rcases five with rfl | rfl | rfl | rfl | rfl
    · exact kit_bt (by decide +kernel) wint_Book
    · exact kit_bt (by decide +kernel) wbool_Book
    · exact kit_bt (by decide +kernel) wstr_Book
    · exact kit_bt (by decide +kernel) wtuple_Book
    · exact kit_bt (by decide +kernel) wlist_Book
  have okw_Web : OkD K (.oth (.ref C_Web)) := by
    unfold OkD
    intro n hn
    have five : n = "int" ∨ n = "bool" ∨ n = "str" ∨ n = "tuple" ∨ n = "list" := by simpa [kinds] using hn
    rcases five with rfl | rfl | rfl | rfl | rfl
    · exact kit_bt (by decide +kernel) wint_Web
    · exact kit_bt (by decide +kernel) wbool_Web
    · exact kit_bt (by decide +kernel) wstr_Web
    · exact kit_bt (by decide +kernel) wtuple_Web
    · exact kit_bt (by decide +kernel) wlist_Web
  let T : Txt K mg := {
    f_is_integer := f_is_integer
    fd_is_integer := _
    F_is_integer := F_is_integer
    b_is_integer := F_is_integer.binds (ps := ["thing"]) fun _ _ _ _ _ _ us hl => match us, hl with | [_], _ => rfl
    g_is_integer := PySem.W.mg_of X G a_is_integer
    k_is_integer := k_is_integer
    f_is_between := f_is_between
    fd_is_between := _
    F_is_between := F_is_between
    b_is_between := F_is_between.binds (ps := ["low", "high", "thing"]) fun _ _ _ _ _ _ us hl => match us, hl with | [_, _, _], _ => rfl
    g_is_between := PySem.W.mg_of X G a_is_between
    k_is_between := k_is_between
    f_is_tuple_of := f_is_tuple_of
    fd_is_tuple_of := _
    F_is_tuple_of := F_is_tuple_of
    b_is_tuple_of := F_is_tuple_of.binds (ps := ["low", "high", "thing"]) fun _ _ _ _ _ _ us hl => match us, hl with | [_, _, _], _ => rfl
    g_is_tuple_of := PySem.W.mg_of X G a_is_tuple_of
    k_is_tuple_of := k_is_tuple_of
    f_is_fraction := f_is_fraction
    fd_is_fraction := _
    F_is_fraction := F_is_fraction
    b_is_fraction := F_is_fraction.binds (ps := ["thing"]) fun _ _ _ _ _ _ us hl => match us, hl with | [_], _ => rfl
    g_is_fraction := PySem.W.mg_of X G a_is_fraction
    k_is_fraction := k_is_fraction
    f_at_most := f_at_most
    fd_at_most := _
    F_at_most := F_at_most
    b_at_most := F_at_most.binds (ps := ["one", "other"]) fun _ _ _ _ _ _ us hl => match us, hl with | [_, _], _ => rfl
    g_at_most := PySem.W.mg_of X G a_at_most
    k_at_most := k_at_most
    f_is_threshold := f_is_threshold
    fd_is_threshold := _
    F_is_threshold := F_is_threshold
    b_is_threshold := F_is_threshold.binds (ps := ["thing"]) fun _ _ _ _ _ _ us hl => match us, hl with | [_], _ => rfl
    g_is_threshold := PySem.W.mg_of X G a_is_threshold
    k_is_threshold := k_is_threshold
    f_is_list := f_is_list
    fd_is_list := _
    F_is_list := F_is_list
    b_is_list := F_is_list.binds (ps := ["thing"]) fun _ _ _ _ _ _ us hl => match us, hl with | [_], _ => rfl
    g_is_list := PySem.W.mg_of X G a_is_list
    k_is_list := k_is_list
    f_ascends := f_ascends
    fd_ascends := _
    F_ascends := F_ascends
    b_ascends := F_ascends.binds (ps := ["things"]) fun _ _ _ _ _ _ us hl => match us, hl with | [_], _ => rfl
    g_ascends := PySem.W.mg_of X G a_ascends
    k_ascends := k_ascends
    f_is_width := f_is_width
    fd_is_width := _
    F_is_width := F_is_width
    b_is_width := F_is_width.binds (ps := ["thing"]) fun _ _ _ _ _ _ us hl => match us, hl with | [_], _ => rfl
    g_is_width := PySem.W.mg_of X G a_is_width
    k_is_width := k_is_width
    f_is_widths := f_is_widths
    fd_is_widths := _
    F_is_widths := F_is_widths
    b_is_widths := F_is_widths.binds (ps := ["thing"]) fun _ _ _ _ _ _ us hl => match us, hl with | [_], _ => rfl
    g_is_widths := PySem.W.mg_of X G a_is_widths
    k_is_widths := k_is_widths
    f_is_pipe := f_is_pipe
    fd_is_pipe := _
    F_is_pipe := F_is_pipe
    b_is_pipe := F_is_pipe.binds (ps := ["vessels", "thing"]) fun _ _ _ _ _ _ us hl => match us, hl with | [_, _], _ => rfl
    g_is_pipe := PySem.W.mg_of X G a_is_pipe
    k_is_pipe := k_is_pipe
    f_Web__init__ := f_Web__init__
    fd_Web__init__ := _
    F_Web__init__ := F_Web__init__
    b_Web__init__ := F_Web__init__.binds (ps := ["self", "widths", "pipes"]) fun _ _ _ _ _ _ us hl => match us, hl with | [_, _, _], _ => rfl
    f_pipe_counts := f_pipe_counts
    fd_pipe_counts := _
    F_pipe_counts := F_pipe_counts
    b_pipe_counts := F_pipe_counts.binds (ps := ["web"]) fun _ _ _ _ _ _ us hl => match us, hl with | [_], _ => rfl
    g_pipe_counts := PySem.W.mg_of X G a_pipe_counts
    k_pipe_counts := k_pipe_counts
    f_is_sort := f_is_sort
    fd_is_sort := _
    F_is_sort := F_is_sort
    b_is_sort := F_is_sort.binds (ps := ["thing"]) fun _ _ _ _ _ _ us hl => match us, hl with | [_], _ => rfl
    g_is_sort := PySem.W.mg_of X G a_is_sort
    k_is_sort := k_is_sort
    f_is_sort_tuple := f_is_sort_tuple
    fd_is_sort_tuple := _
    F_is_sort_tuple := F_is_sort_tuple
    b_is_sort_tuple := F_is_sort_tuple.binds (ps := ["thing"]) fun _ _ _ _ _ _ us hl => match us, hl with | [_], _ => rfl
    g_is_sort_tuple := PySem.W.mg_of X G a_is_sort_tuple
    k_is_sort_tuple := k_is_sort_tuple
    f_is_join := f_is_join
    fd_is_join := _
    F_is_join := F_is_join
    b_is_join := F_is_join.binds (ps := ["sorts", "thing"]) fun _ _ _ _ _ _ us hl => match us, hl with | [_, _], _ => rfl
    g_is_join := PySem.W.mg_of X G a_is_join
    k_is_join := k_is_join
    f_is_kind := f_is_kind
    fd_is_kind := _
    F_is_kind := F_is_kind
    b_is_kind := F_is_kind.binds (ps := ["sorts", "thing"]) fun _ _ _ _ _ _ us hl => match us, hl with | [_, _], _ => rfl
    g_is_kind := PySem.W.mg_of X G a_is_kind
    k_is_kind := k_is_kind
    f_Book__init__ := f_Book__init__
    fd_Book__init__ := _
    F_Book__init__ := F_Book__init__
    b_Book__init__ := F_Book__init__.binds (ps := ["self", "sorts", "kinds"]) fun _ _ _ _ _ _ us hl => match us, hl with | [_, _, _], _ => rfl
    f_may_join := f_may_join
    fd_may_join := _
    F_may_join := F_may_join
    b_may_join := F_may_join.binds (ps := ["book", "thresholds", "one", "other"]) fun _ _ _ _ _ _ us hl => match us, hl with | [_, _, _, _], _ => rfl
    g_may_join := PySem.W.mg_of X G a_may_join
    k_may_join := k_may_join
    f_exceeds_cap := f_exceeds_cap
    fd_exceeds_cap := _
    F_exceeds_cap := F_exceeds_cap
    b_exceeds_cap := F_exceeds_cap.binds (ps := ["book", "sort", "count"]) fun _ _ _ _ _ _ us hl => match us, hl with | [_, _, _], _ => rfl
    g_exceeds_cap := PySem.W.mg_of X G a_exceeds_cap
    k_exceeds_cap := k_exceeds_cap
    f_is_sorts := f_is_sorts
    fd_is_sorts := _
    F_is_sorts := F_is_sorts
    b_is_sorts := F_is_sorts.binds (ps := ["book", "web", "thing"]) fun _ _ _ _ _ _ us hl => match us, hl with | [_, _, _], _ => rfl
    g_is_sorts := PySem.W.mg_of X G a_is_sorts
    k_is_sorts := k_is_sorts
    f_first_fault := f_first_fault
    fd_first_fault := _
    F_first_fault := F_first_fault
    b_first_fault := F_first_fault.binds (ps := ["book", "web", "sorts"]) fun _ _ _ _ _ _ us hl => match us, hl with | [_, _, _], _ => rfl
    g_first_fault := PySem.W.mg_of X G a_first_fault
    k_first_fault := k_first_fault
    f_fault := f_fault
    fd_fault := _
    F_fault := F_fault
    b_fault := F_fault.binds (ps := ["book", "web", "sorts"]) fun _ _ _ _ _ _ us hl => match us, hl with | [_, _, _], _ => rfl
    g_fault := PySem.W.mg_of X G a_fault
    k_fault := k_fault
    f__law_source := f__law_source
    fd__law_source := _
    F__law_source := F__law_source
    b__law_source := F__law_source.binds (ps := ["script"]) fun _ _ _ _ _ _ us hl => match us, hl with | [_], _ => rfl
    g__law_source := PySem.W.mg_of X G a__law_source
    k__law_source := k__law_source
    f__law_mixed := f__law_mixed
    fd__law_mixed := _
    F__law_mixed := F__law_mixed
    b__law_mixed := F__law_mixed.binds (ps := ["number", "turn"]) fun _ _ _ _ _ _ us hl => match us, hl with | [_, _], _ => rfl
    g__law_mixed := PySem.W.mg_of X G a__law_mixed
    k__law_mixed := k__law_mixed
    f__law_draw := f__law_draw
    fd__law_draw := _
    F__law_draw := F__law_draw
    b__law_draw := F__law_draw.binds (ps := ["source", "many"]) fun _ _ _ _ _ _ us hl => match us, hl with | [_, _], _ => rfl
    g__law_draw := PySem.W.mg_of X G a__law_draw
    k__law_draw := k__law_draw
    f__law_pick := f__law_pick
    fd__law_pick := _
    F__law_pick := F__law_pick
    b__law_pick := F__law_pick.binds (ps := ["source", "row"]) fun _ _ _ _ _ _ us hl => match us, hl with | [_, _], _ => rfl
    g__law_pick := PySem.W.mg_of X G a__law_pick
    k__law_pick := k__law_pick
    f__law_divisor := f__law_divisor
    fd__law_divisor := _
    F__law_divisor := F__law_divisor
    b__law_divisor := F__law_divisor.binds (ps := ["one", "other"]) fun _ _ _ _ _ _ us hl => match us, hl with | [_, _], _ => rfl
    g__law_divisor := PySem.W.mg_of X G a__law_divisor
    k__law_divisor := k__law_divisor
    f__law_made := f__law_made
    fd__law_made := _
    F__law_made := F__law_made
    b__law_made := F__law_made.binds (ps := ["top", "bottom"]) fun _ _ _ _ _ _ us hl => match us, hl with | [_, _], _ => rfl
    g__law_made := PySem.W.mg_of X G a__law_made
    k__law_made := k__law_made
    f__law_same := f__law_same
    fd__law_same := _
    F__law_same := F__law_same
    b__law_same := F__law_same.binds (ps := ["actual", "expected"]) fun _ _ _ _ _ _ us hl => match us, hl with | [_, _], _ => rfl
    g__law_same := PySem.W.mg_of X G a__law_same
    k__law_same := k__law_same
    f__law_met := f__law_met
    fd__law_met := _
    F__law_met := F__law_met
    b__law_met := F__law_met.binds (ps := ["found", "due"]) fun _ _ _ _ _ _ us hl => match us, hl with | [_, _], _ => rfl
    g__law_met := PySem.W.mg_of X G a__law_met
    k__law_met := k__law_met
    f__law_integer := f__law_integer
    fd__law_integer := _
    F__law_integer := F__law_integer
    b__law_integer := F__law_integer.binds (ps := ["thing"]) fun _ _ _ _ _ _ us hl => match us, hl with | [_], _ => rfl
    g__law_integer := PySem.W.mg_of X G a__law_integer
    k__law_integer := k__law_integer
    f__law_deep := f__law_deep
    fd__law_deep := _
    F__law_deep := F__law_deep
    b__law_deep := F__law_deep.binds (ps := ["many"]) fun _ _ _ _ _ _ us hl => match us, hl with | [_], _ => rfl
    g__law_deep := PySem.W.mg_of X G a__law_deep
    k__law_deep := k__law_deep
    f__law_strange := f__law_strange
    fd__law_strange := _
    F__law_strange := F__law_strange
    b__law_strange := F__law_strange.binds (ps := ["source"]) fun _ _ _ _ _ _ us hl => match us, hl with | [_], _ => rfl
    g__law_strange := PySem.W.mg_of X G a__law_strange
    k__law_strange := k__law_strange
    f__law_in_order := f__law_in_order
    fd__law_in_order := _
    F__law_in_order := F__law_in_order
    b__law_in_order := F__law_in_order.binds (ps := ["steps"]) fun _ _ _ _ _ _ us hl => match us, hl with | [_], _ => rfl
    g__law_in_order := PySem.W.mg_of X G a__law_in_order
    k__law_in_order := k__law_in_order
    f__law_steps := f__law_steps
    fd__law_steps := _
    F__law_steps := F__law_steps
    b__law_steps := F__law_steps.binds (ps := ["source", "most", "wide"]) fun _ _ _ _ _ _ us hl => match us, hl with | [_, _, _], _ => rfl
    g__law_steps := PySem.W.mg_of X G a__law_steps
    k__law_steps := k__law_steps
    f__law_pipe := f__law_pipe
    fd__law_pipe := _
    F__law_pipe := F__law_pipe
    b__law_pipe := F__law_pipe.binds (ps := ["source", "vessels", "most", "wide"]) fun _ _ _ _ _ _ us hl => match us, hl with | [_, _, _, _], _ => rfl
    g__law_pipe := PySem.W.mg_of X G a__law_pipe
    k__law_pipe := k__law_pipe
    f__law_with := f__law_with
    fd__law_with := _
    F__law_with := F__law_with
    b__law_with := F__law_with.binds (ps := ["row", "place", "thing"]) fun _ _ _ _ _ _ us hl => match us, hl with | [_, _, _], _ => rfl
    g__law_with := PySem.W.mg_of X G a__law_with
    k__law_with := k__law_with
    f__law_joins := f__law_joins
    fd__law_joins := _
    F__law_joins := F__law_joins
    b__law_joins := F__law_joins.binds (ps := ["source", "sorts"]) fun _ _ _ _ _ _ us hl => match us, hl with | [_, _], _ => rfl
    g__law_joins := PySem.W.mg_of X G a__law_joins
    k__law_joins := k__law_joins
    f__law_sorts := f__law_sorts
    fd__law_sorts := _
    F__law_sorts := F__law_sorts
    b__law_sorts := F__law_sorts.binds (ps := ["source", "many", "wide"]) fun _ _ _ _ _ _ us hl => match us, hl with | [_, _, _], _ => rfl
    g__law_sorts := PySem.W.mg_of X G a__law_sorts
    k__law_sorts := k__law_sorts
    f__law_kinds := f__law_kinds
    fd__law_kinds := _
    F__law_kinds := F__law_kinds
    b__law_kinds := F__law_kinds.binds (ps := ["source", "sorts", "many", "wide"]) fun _ _ _ _ _ _ us hl => match us, hl with | [_, _, _, _], _ => rfl
    g__law_kinds := PySem.W.mg_of X G a__law_kinds
    k__law_kinds := k__law_kinds
    f__law_woven := f__law_woven
    fd__law_woven := _
    F__law_woven := F__law_woven
    b__law_woven := F__law_woven.binds (ps := ["source", "sorts", "kinds", "vessels", "many"]) fun _ _ _ _ _ _ us hl => match us, hl with | [_, _, _, _, _], _ => rfl
    g__law_woven := PySem.W.mg_of X G a__law_woven
    k__law_woven := k__law_woven
    f__law_fault := f__law_fault
    fd__law_fault := _
    F__law_fault := F__law_fault
    b__law_fault := F__law_fault.binds (ps := ["book", "web", "sorts"]) fun _ _ _ _ _ _ us hl => match us, hl with | [_, _, _], _ => rfl
    g__law_fault := PySem.W.mg_of X G a__law_fault
    k__law_fault := k__law_fault
    f__law_told := f__law_told
    fd__law_told := _
    F__law_told := F__law_told
    b__law_told := F__law_told.binds (ps := ["action"]) fun _ _ _ _ _ _ us hl => match us, hl with | [_], _ => rfl
    g__law_told := PySem.W.mg_of X G a__law_told
    k__law_told := k__law_told
    f__law_are_sorts_of := f__law_are_sorts_of
    fd__law_are_sorts_of := _
    F__law_are_sorts_of := F__law_are_sorts_of
    b__law_are_sorts_of := F__law_are_sorts_of.binds (ps := ["thing", "vessels", "many"]) fun _ _ _ _ _ _ us hl => match us, hl with | [_, _, _], _ => rfl
    g__law_are_sorts_of := PySem.W.mg_of X G a__law_are_sorts_of
    k__law_are_sorts_of := k__law_are_sorts_of
    f__law_changed := f__law_changed
    fd__law_changed := _
    F__law_changed := F__law_changed
    b__law_changed := F__law_changed.binds (ps := ["source", "kind", "book", "web"]) fun _ _ _ _ _ _ us hl => match us, hl with | [_, _, _, _], _ => rfl
    g__law_changed := PySem.W.mg_of X G a__law_changed
    k__law_changed := k__law_changed
    Z := ⟨C_NoSorts, C_Book, C_Web, C_TidesError, C_NoSort, C_BadBook, C_BadWeb⟩
    fi_NoSorts := fi_NoSorts
    x_NoSorts := { gC := PySem.W.mg_of X G aC_NoSorts, cls := ⟨_, _, _, _, _, _, _, _, _, _, _, _, _, _, _, xL_NoSorts, xr_NoSorts⟩, iC := xi_NoSorts, tC := xt_NoSorts, kC := xk_NoSorts, exC := xs_NoSorts, tyC := xy_NoSorts, fn := ⟨_, _, _, _, _, _, _, _, _, _, xf_NoSorts, xc_NoSorts⟩ }
    fi_BadBook := f_BadBook__init__
    fdx_BadBook := _
    Fx_BadBook := F_BadBook__init__
    bx_BadBook := F_BadBook__init__.binds (ps := ["self", "part"]) fun _ _ _ _ _ _ us hl => match us, hl with | [_, _], _ => rfl
    gx_BadBook := PySem.W.mg_of X G aC_BadBook
    ox_BadBook := ⟨⟨_, _, _, _, _, _, _, _, _, _, _, _, _, _, _, xL_BadBook, xr_BadBook⟩, xsa_BadBook, xs_BadBook, xy_BadBook, xk_BadBook⟩
    xi_BadBook := xi_BadBook
    xt_BadBook := xt_BadBook
    no_BadBook := no_BadBook
    xf_BadBook := oxf_BadBook
    fi_BadWeb := f_BadWeb__init__
    fdx_BadWeb := _
    Fx_BadWeb := F_BadWeb__init__
    bx_BadWeb := F_BadWeb__init__.binds (ps := ["self", "part"]) fun _ _ _ _ _ _ us hl => match us, hl with | [_, _], _ => rfl
    gx_BadWeb := PySem.W.mg_of X G aC_BadWeb
    ox_BadWeb := ⟨⟨_, _, _, _, _, _, _, _, _, _, _, _, _, _, _, xL_BadWeb, xr_BadWeb⟩, xsa_BadWeb, xs_BadWeb, xy_BadWeb, xk_BadWeb⟩
    xi_BadWeb := xi_BadWeb
    xt_BadWeb := xt_BadWeb
    no_BadWeb := no_BadWeb
    xf_BadWeb := oxf_BadWeb
    cm_Book := ⟨wm_Book, a_Book__init__, wf_Book, wk_Book⟩
    gc_Book := PySem.W.mg_of X G aC_Book
    it_Book := ⟨⟨wp_Book, wd_Book, wo_Book, ws_Book⟩, wc_Book, wg_Book, wt_Book, wr_Book⟩
    ok_Book := okw_Book
    cm_Web := ⟨wm_Web, a_Web__init__, wf_Web, wk_Web⟩
    gc_Web := PySem.W.mg_of X G aC_Web
    it_Web := ⟨⟨wp_Web, wd_Web, wo_Web, ws_Web⟩, wc_Web, wg_Web, wt_Web, wr_Web⟩
    ok_Web := okw_Web
    gc_TidesError := PySem.W.mg_of X G aC_TidesError
    gc_NoSort := PySem.W.mg_of X G aC_NoSort
    na_Book_kinds := na_Book_kinds
    na_Book_sorts := na_Book_sorts
    na_Web_pipes := na_Web_pipes
    na_Web_widths := na_Web_widths
    z_abs := PySem.W.mg_none_of X G z_abs
    z_all := PySem.W.mg_none_of X G z_all
    z_any := PySem.W.mg_none_of X G z_any
    z_bool := PySem.W.mg_none_of X G z_bool
    z_enumerate := PySem.W.mg_none_of X G z_enumerate
    z_int := PySem.W.mg_none_of X G z_int
    z_isinstance := PySem.W.mg_none_of X G z_isinstance
    z_len := PySem.W.mg_none_of X G z_len
    z_list := PySem.W.mg_none_of X G z_list
    z_max := PySem.W.mg_none_of X G z_max
    z_min := PySem.W.mg_none_of X G z_min
    z_range := PySem.W.mg_none_of X G z_range
    z_sorted := PySem.W.mg_none_of X G z_sorted
    z_str := PySem.W.mg_none_of X G z_str
    z_tuple := PySem.W.mg_none_of X G z_tuple
    z_zip := PySem.W.mg_none_of X G z_zip
    t_MOST_BOTTOM := t_MOST_BOTTOM
    c_MOST_BOTTOM := PySem.W.mg_of X G n_MOST_BOTTOM
    t_MOST_CAP := t_MOST_CAP
    c_MOST_CAP := PySem.W.mg_of X G n_MOST_CAP
    t_MOST_KINDS := t_MOST_KINDS
    c_MOST_KINDS := PySem.W.mg_of X G n_MOST_KINDS
    t_MOST_PIPES := t_MOST_PIPES
    c_MOST_PIPES := PySem.W.mg_of X G n_MOST_PIPES
    t_MOST_SORTS := t_MOST_SORTS
    c_MOST_SORTS := PySem.W.mg_of X G n_MOST_SORTS
    t_MOST_THRESHOLDS := t_MOST_THRESHOLDS
    c_MOST_THRESHOLDS := PySem.W.mg_of X G n_MOST_THRESHOLDS
    t_MOST_TOP := t_MOST_TOP
    c_MOST_TOP := PySem.W.mg_of X G n_MOST_TOP
    t_MOST_VESSELS := t_MOST_VESSELS
    c_MOST_VESSELS := PySem.W.mg_of X G n_MOST_VESSELS
    t_MOST_WIDTH := t_MOST_WIDTH
    c_MOST_WIDTH := PySem.W.mg_of X G n_MOST_WIDTH
    m_gcd := PySem.W.mg_of X G m_gcd }
  have LF : LawF K T.Z := ⟨⟨⟨tg_NoSorts, tk_NoSorts, xs_NoSorts, td_NoSorts, ta_NoSorts, tn_NoSorts, tt_NoSorts, tm_NoSorts⟩, PySem.W.exm_ref es_TE eh_TE ey_TE te_NoSorts, kit_rt ti_NoSorts ty_NoSorts t1_NoSorts, kit_rf u2_NoSorts ti_NoSort ty_NoSort t2_NoSorts, kit_rf u3_NoSorts ti_BadBook ty_BadBook t3_NoSorts⟩, okw_Web⟩
  exact law_at T LF l_law c_law hP nP ⟨_, vsL, fiL, tfL, flL, tgL, inL, txL, ttL, X _ _ lC, rfl, rfl, v11, g11, g18, g7, g9, g10, neL⟩
end
end K08
open PySem PySem.W PyProof.Rows
set_option maxRecDepth 100000 in
set_option maxHeartbeats 0 in
theorem PySem.Challenge.cw_twotides_k08_faults_of_webs_holds : PySem.Challenge.rw_twotides_k08_faults_of_webs.Holds := by
  w_on; o_law; k_head; (case hw => w_witness2)
  k_fill
  refine LamX.walk_ofTs (l := PySem.Challenge.rw_twotides_k08_faults_of_webs) (n := 63) (k := 10) (x := "script") (CX := fun w => L2.CX PySem.Challenge.rw_twotides_k08_faults_of_webs.prog w) rfl (by decide) rfl ⟨rfl, by decide, by decide⟩ (fun w h Y => PySem.W.km_in_of Y) ?F K08.cx_none
  case F =>
    intro w mg fa h Y KX G hmg
    refine' K08.all_mk (K := _) KX G hmg ?aC_NoSorts ?aC_Book ?aC_Web ?aC_TidesError ?aC_NoSort ?aC_BadBook ?aC_BadWeb ?a_is_integer ?l_is_integer ?c_is_integer ?k_is_integer ?a_is_between ?l_is_between ?c_is_between ?k_is_between ?a_is_tuple_of ?l_is_tuple_of ?c_is_tuple_of ?k_is_tuple_of ?a_is_fraction ?l_is_fraction ?c_is_fraction ?k_is_fraction ?a_at_most ?l_at_most ?c_at_most ?k_at_most ?a_is_threshold ?l_is_threshold ?c_is_threshold ?k_is_threshold ?a_is_list ?l_is_list ?c_is_list ?k_is_list ?a_ascends ?l_ascends ?c_ascends ?k_ascends ?a_is_width ?l_is_width ?c_is_width ?k_is_width ?a_is_widths ?l_is_widths ?c_is_widths ?k_is_widths ?a_is_pipe ?l_is_pipe ?c_is_pipe ?k_is_pipe ?a_Web__init__ ?l_Web__init__ ?c_Web__init__ ?k_Web__init__ ?a_pipe_counts ?l_pipe_counts ?c_pipe_counts ?k_pipe_counts ?a_is_sort ?l_is_sort ?c_is_sort ?k_is_sort ?a_is_sort_tuple ?l_is_sort_tuple ?c_is_sort_tuple ?k_is_sort_tuple ?a_is_join ?l_is_join ?c_is_join ?k_is_join ?a_is_kind ?l_is_kind ?c_is_kind ?k_is_kind ?a_Book__init__ ?l_Book__init__ ?c_Book__init__ ?k_Book__init__ ?a_may_join ?l_may_join ?c_may_join ?k_may_join ?a_exceeds_cap ?l_exceeds_cap ?c_exceeds_cap ?k_exceeds_cap ?a_is_sorts ?l_is_sorts ?c_is_sorts ?k_is_sorts ?a_first_fault ?l_first_fault ?c_first_fault ?k_first_fault ?a_fault ?l_fault ?c_fault ?k_fault ?a__law_source ?l__law_source ?c__law_source ?k__law_source ?a__law_mixed ?l__law_mixed ?c__law_mixed ?k__law_mixed ?a__law_draw ?l__law_draw ?c__law_draw ?k__law_draw ?a__law_pick ?l__law_pick ?c__law_pick ?k__law_pick ?a__law_divisor ?l__law_divisor ?c__law_divisor ?k__law_divisor ?a__law_made ?l__law_made ?c__law_made ?k__law_made ?a__law_same ?l__law_same ?c__law_same ?k__law_same ?a__law_met ?l__law_met ?c__law_met ?k__law_met ?a__law_integer ?l__law_integer ?c__law_integer ?k__law_integer ?a__law_deep ?l__law_deep ?c__law_deep ?k__law_deep ?a__law_strange ?l__law_strange ?c__law_strange ?k__law_strange ?a__law_in_order ?l__law_in_order ?c__law_in_order ?k__law_in_order ?a__law_steps ?l__law_steps ?c__law_steps ?k__law_steps ?a__law_pipe ?l__law_pipe ?c__law_pipe ?k__law_pipe ?a__law_with ?l__law_with ?c__law_with ?k__law_with ?a__law_joins ?l__law_joins ?c__law_joins ?k__law_joins ?a__law_sorts ?l__law_sorts ?c__law_sorts ?k__law_sorts ?a__law_kinds ?l__law_kinds ?c__law_kinds ?k__law_kinds ?a__law_woven ?l__law_woven ?c__law_woven ?k__law_woven ?a__law_fault ?l__law_fault ?c__law_fault ?k__law_fault ?a__law_told ?l__law_told ?c__law_told ?k__law_told ?a__law_are_sorts_of ?l__law_are_sorts_of ?c__law_are_sorts_of ?k__law_are_sorts_of ?a__law_changed ?l__law_changed ?c__law_changed ?k__law_changed ?xL_NoSorts ?xr_NoSorts ?xi_NoSorts ?xt_NoSorts ?xk_NoSorts ?xs_NoSorts ?xy_NoSorts ?xf_NoSorts ?xc_NoSorts ?xL_BadBook ?xr_BadBook ?xi_BadBook ?l_BadBook__init__ ?c_BadBook__init__ ?k_BadBook__init__ ?xt_BadBook ?xk_BadBook ?xs_BadBook ?xy_BadBook ?xsa_BadBook ?xga_BadBook ?xgg_BadBook ?xhd_BadBook ?no_BadBook ?xL_BadWeb ?xr_BadWeb ?xi_BadWeb ?l_BadWeb__init__ ?c_BadWeb__init__ ?k_BadWeb__init__ ?xt_BadWeb ?xk_BadWeb ?xs_BadWeb ?xy_BadWeb ?xsa_BadWeb ?xga_BadWeb ?xgg_BadWeb ?xhd_BadWeb ?no_BadWeb ?wm_Book ?wf_Book ?wk_Book ?wp_Book ?wd_Book ?wo_Book ?ws_Book ?wc_Book ?wg_Book ?wt_Book ?wr_Book ?wint_Book ?wbool_Book ?wstr_Book ?wtuple_Book ?wlist_Book ?wm_Web ?wf_Web ?wk_Web ?wp_Web ?wd_Web ?wo_Web ?ws_Web ?wc_Web ?wg_Web ?wt_Web ?wr_Web ?wint_Web ?wbool_Web ?wstr_Web ?wtuple_Web ?wlist_Web ?na_Book_kinds ?na_Book_sorts ?na_Web_pipes ?na_Web_widths ?z_abs ?z_all ?z_any ?z_bool ?z_enumerate ?z_int ?z_isinstance ?z_len ?z_list ?z_max ?z_min ?z_range ?z_sorted ?z_str ?z_tuple ?z_zip ?n_MOST_BOTTOM ?n_MOST_CAP ?n_MOST_KINDS ?n_MOST_PIPES ?n_MOST_SORTS ?n_MOST_THRESHOLDS ?n_MOST_TOP ?n_MOST_VESSELS ?n_MOST_WIDTH ?m_gcd ?tg_NoSorts ?tk_NoSorts ?td_NoSorts ?ta_NoSorts ?tn_NoSorts ?tt_NoSorts ?tm_NoSorts ?te_NoSorts ?t1_NoSorts ?t2_NoSorts ?u2_NoSorts ?t3_NoSorts ?u3_NoSorts ?ti_BadBook ?ty_BadBook ?ti_NoSort ?ty_NoSort ?ti_NoSorts ?ty_NoSorts ?es_TE ?eh_TE ?ey_TE ?a_law ?l_law ?lC ?v11 ?g11 ?g18 ?g7 ?g9 ?g10 ?neL ?c_law ?hP ?nP
    (case aC_NoSorts => k_is)
    (case aC_Book => k_is)
    (case aC_Web => k_is)
    (case aC_TidesError => k_is)
    (case aC_NoSort => k_is)
    (case aC_BadBook => k_is)
    (case aC_BadWeb => k_is)
    (case a_is_integer => k_is)
    (case l_is_integer => k_is)
    (case c_is_integer => k_is)
    (case k_is_integer => k_is)
    (case a_is_between => k_is)
    (case l_is_between => k_is)
    (case c_is_between => k_is)
    (case k_is_between => k_is)
    (case a_is_tuple_of => k_is)
    (case l_is_tuple_of => k_is)
    (case c_is_tuple_of => k_is)
    (case k_is_tuple_of => k_is)
    (case a_is_fraction => k_is)
    (case l_is_fraction => k_is)
    (case c_is_fraction => k_is)
    (case k_is_fraction => k_is)
    (case a_at_most => k_is)
    (case l_at_most => k_is)
    (case c_at_most => k_is)
    (case k_at_most => k_is)
    (case a_is_threshold => k_is)
    (case l_is_threshold => k_is)
    (case c_is_threshold => k_is)
    (case k_is_threshold => k_is)
    (case a_is_list => k_is)
    (case l_is_list => k_is)
    (case c_is_list => k_is)
    (case k_is_list => k_is)
    (case a_ascends => k_is)
    (case l_ascends => k_is)
    (case c_ascends => k_is)
    (case k_ascends => k_is)
    (case a_is_width => k_is)
    (case l_is_width => k_is)
    (case c_is_width => k_is)
    (case k_is_width => k_is)
    (case a_is_widths => k_is)
    (case l_is_widths => k_is)
    (case c_is_widths => k_is)
    (case k_is_widths => k_is)
    (case a_is_pipe => k_is)
    (case l_is_pipe => k_is)
    (case c_is_pipe => k_is)
    (case k_is_pipe => k_is)
    (case a_Web__init__ => k_is)
    (case l_Web__init__ => k_is)
    (case c_Web__init__ => k_is)
    (case k_Web__init__ => k_is)
    (case a_pipe_counts => k_is)
    (case l_pipe_counts => k_is)
    (case c_pipe_counts => k_is)
    (case k_pipe_counts => k_is)
    (case a_is_sort => k_is)
    (case l_is_sort => k_is)
    (case c_is_sort => k_is)
    (case k_is_sort => k_is)
    (case a_is_sort_tuple => k_is)
    (case l_is_sort_tuple => k_is)
    (case c_is_sort_tuple => k_is)
    (case k_is_sort_tuple => k_is)
    (case a_is_join => k_is)
    (case l_is_join => k_is)
    (case c_is_join => k_is)
    (case k_is_join => k_is)
    (case a_is_kind => k_is)
    (case l_is_kind => k_is)
    (case c_is_kind => k_is)
    (case k_is_kind => k_is)
    (case a_Book__init__ => k_is)
    (case l_Book__init__ => k_is)
    (case c_Book__init__ => k_is)
    (case k_Book__init__ => k_is)
    (case a_may_join => k_is)
    (case l_may_join => k_is)
    (case c_may_join => k_is)
    (case k_may_join => k_is)
    (case a_exceeds_cap => k_is)
    (case l_exceeds_cap => k_is)
    (case c_exceeds_cap => k_is)
    (case k_exceeds_cap => k_is)
    (case a_is_sorts => k_is)
    (case l_is_sorts => k_is)
    (case c_is_sorts => k_is)
    (case k_is_sorts => k_is)
    (case a_first_fault => k_is)
    (case l_first_fault => k_is)
    (case c_first_fault => k_is)
    (case k_first_fault => k_is)
    (case a_fault => k_is)
    (case l_fault => k_is)
    (case c_fault => k_is)
    (case k_fault => k_is)
    (case a__law_source => k_is)
    (case l__law_source => k_is)
    (case c__law_source => k_is)
    (case k__law_source => k_is)
    (case a__law_mixed => k_is)
    (case l__law_mixed => k_is)
    (case c__law_mixed => k_is)
    (case k__law_mixed => k_is)
    (case a__law_draw => k_is)
    (case l__law_draw => k_is)
    (case c__law_draw => k_is)
    (case k__law_draw => k_is)
    (case a__law_pick => k_is)
    (case l__law_pick => k_is)
    (case c__law_pick => k_is)
    (case k__law_pick => k_is)
    (case a__law_divisor => k_is)
    (case l__law_divisor => k_is)
    (case c__law_divisor => k_is)
    (case k__law_divisor => k_is)
    (case a__law_made => k_is)
    (case l__law_made => k_is)
    (case c__law_made => k_is)
    (case k__law_made => k_is)
    (case a__law_same => k_is)
    (case l__law_same => k_is)
    (case c__law_same => k_is)
    (case k__law_same => k_is)
    (case a__law_met => k_is)
    (case l__law_met => k_is)
    (case c__law_met => k_is)
    (case k__law_met => k_is)
    (case a__law_integer => k_is)
    (case l__law_integer => k_is)
    (case c__law_integer => k_is)
    (case k__law_integer => k_is)
    (case a__law_deep => k_is)
    (case l__law_deep => k_is)
    (case c__law_deep => k_is)
    (case k__law_deep => k_is)
    (case a__law_strange => k_is)
    (case l__law_strange => k_is)
    (case c__law_strange => k_is)
    (case k__law_strange => k_is)
    (case a__law_in_order => k_is)
    (case l__law_in_order => k_is)
    (case c__law_in_order => k_is)
    (case k__law_in_order => k_is)
    (case a__law_steps => k_is)
    (case l__law_steps => k_is)
    (case c__law_steps => k_is)
    (case k__law_steps => k_is)
    (case a__law_pipe => k_is)
    (case l__law_pipe => k_is)
    (case c__law_pipe => k_is)
    (case k__law_pipe => k_is)
    (case a__law_with => k_is)
    (case l__law_with => k_is)
    (case c__law_with => k_is)
    (case k__law_with => k_is)
    (case a__law_joins => k_is)
    (case l__law_joins => k_is)
    (case c__law_joins => k_is)
    (case k__law_joins => k_is)
    (case a__law_sorts => k_is)
    (case l__law_sorts => k_is)
    (case c__law_sorts => k_is)
    (case k__law_sorts => k_is)
    (case a__law_kinds => k_is)
    (case l__law_kinds => k_is)
    (case c__law_kinds => k_is)
    (case k__law_kinds => k_is)
    (case a__law_woven => k_is)
    (case l__law_woven => k_is)
    (case c__law_woven => k_is)
    (case k__law_woven => k_is)
    (case a__law_fault => k_is)
    (case l__law_fault => k_is)
    (case c__law_fault => k_is)
    (case k__law_fault => k_is)
    (case a__law_told => k_is)
    (case l__law_told => k_is)
    (case c__law_told => k_is)
    (case k__law_told => k_is)
    (case a__law_are_sorts_of => k_is)
    (case l__law_are_sorts_of => k_is)
    (case c__law_are_sorts_of => k_is)
    (case k__law_are_sorts_of => k_is)
    (case a__law_changed => k_is)
    (case l__law_changed => k_is)
    (case c__law_changed => k_is)
    (case k__law_changed => k_is)
    (case xL_NoSorts => k_is)
    (case xr_NoSorts => decide +kernel)
    (case xi_NoSorts => k_is)
    (case xt_NoSorts => k_is)
    (case xk_NoSorts => k_is)
    (case xs_NoSorts => k_is)
    (case xy_NoSorts => k_is)
    (case xf_NoSorts => k_is)
    (case xc_NoSorts => k_is)
    (case xL_BadBook => k_is)
    (case xr_BadBook => decide +kernel)
    (case xi_BadBook => k_is)
    (case l_BadBook__init__ => k_is)
    (case c_BadBook__init__ => k_is)
    (case k_BadBook__init__ => k_is)
    (case xt_BadBook => k_is)
    (case xk_BadBook => k_is)
    (case xs_BadBook => k_is)
    (case xy_BadBook => k_is)
    (case xsa_BadBook => k_is)
    (case xga_BadBook => k_is)
    (case xgg_BadBook => k_is)
    (case xhd_BadBook => k_is)
    (case no_BadBook => k_is)
    (case xL_BadWeb => k_is)
    (case xr_BadWeb => decide +kernel)
    (case xi_BadWeb => k_is)
    (case l_BadWeb__init__ => k_is)
    (case c_BadWeb__init__ => k_is)
    (case k_BadWeb__init__ => k_is)
    (case xt_BadWeb => k_is)
    (case xk_BadWeb => k_is)
    (case xs_BadWeb => k_is)
    (case xy_BadWeb => k_is)
    (case xsa_BadWeb => k_is)
    (case xga_BadWeb => k_is)
    (case xgg_BadWeb => k_is)
    (case xhd_BadWeb => k_is)
    (case no_BadWeb => k_is)
    (case wm_Book => k_is)
    (case wf_Book => k_is)
    (case wk_Book => k_is)
    (case wp_Book => k_is)
    (case wd_Book => k_is)
    (case wo_Book => k_is)
    (case ws_Book => k_is)
    (case wc_Book => k_is)
    (case wg_Book => k_is)
    (case wt_Book => k_is)
    (case wr_Book => k_is)
    (case wint_Book => k_is)
    (case wbool_Book => k_is)
    (case wstr_Book => k_is)
    (case wtuple_Book => k_is)
    (case wlist_Book => k_is)
    (case wm_Web => k_is)
    (case wf_Web => k_is)
    (case wk_Web => k_is)
    (case wp_Web => k_is)
    (case wd_Web => k_is)
    (case wo_Web => k_is)
    (case ws_Web => k_is)
    (case wc_Web => k_is)
    (case wg_Web => k_is)
    (case wt_Web => k_is)
    (case wr_Web => k_is)
    (case wint_Web => k_is)
    (case wbool_Web => k_is)
    (case wstr_Web => k_is)
    (case wtuple_Web => k_is)
    (case wlist_Web => k_is)
    (case na_Book_kinds => k_is)
    (case na_Book_sorts => k_is)
    (case na_Web_pipes => k_is)
    (case na_Web_widths => k_is)
    (case z_abs => k_is)
    (case z_all => k_is)
    (case z_any => k_is)
    (case z_bool => k_is)
    (case z_enumerate => k_is)
    (case z_int => k_is)
    (case z_isinstance => k_is)
    (case z_len => k_is)
    (case z_list => k_is)
    (case z_max => k_is)
    (case z_min => k_is)
    (case z_range => k_is)
    (case z_sorted => k_is)
    (case z_str => k_is)
    (case z_tuple => k_is)
    (case z_zip => k_is)
    (case n_MOST_BOTTOM => k_is)
    (case n_MOST_CAP => k_is)
    (case n_MOST_KINDS => k_is)
    (case n_MOST_PIPES => k_is)
    (case n_MOST_SORTS => k_is)
    (case n_MOST_THRESHOLDS => k_is)
    (case n_MOST_TOP => k_is)
    (case n_MOST_VESSELS => k_is)
    (case n_MOST_WIDTH => k_is)
    (case m_gcd => k_is)
    (case tg_NoSorts => k_is)
    (case tk_NoSorts => k_is)
    (case td_NoSorts => k_is)
    (case ta_NoSorts => k_is)
    (case tn_NoSorts => k_is)
    (case tt_NoSorts => k_is)
    (case tm_NoSorts => k_is)
    (case te_NoSorts => k_is)
    (case t1_NoSorts => k_is)
    (case t2_NoSorts => k_is)
    (case u2_NoSorts => decide +kernel)
    (case t3_NoSorts => k_is)
    (case u3_NoSorts => decide +kernel)
    (case ti_BadBook => k_is)
    (case ty_BadBook => k_is)
    (case ti_NoSort => k_is)
    (case ty_NoSort => k_is)
    (case ti_NoSorts => k_is)
    (case ty_NoSorts => k_is)
    (case es_TE => k_is)
    (case eh_TE => k_is)
    (case ey_TE => k_is)
    (case a_law => k_is)
    (case l_law => k_is)
    (case lC => k_is)
    (case v11 => rfl)
    (case g11 => rfl)
    (case g18 => rfl)
    (case g7 => rfl)
    (case g9 => rfl)
    (case g10 => rfl)
    (case neL => decide)
    (case c_law => k_is)
    (case hP => exact PySem.W.km_tabs_of Y _ (List.mem_cons_self ..))
    (case nP => first | rfl | kernel_rfl)
