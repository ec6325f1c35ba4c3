import PyProof.Rows.All
import Wide.All
import OpenK.AllK
import Wide.FinOn
import HandS.ForMost
import HandS.IsInst
import HandS.TupAny
import HandS.More
import HandS.CallLocal
import PyProof.TypeEq
import PyProof.ReprReads
import PyProof.InstEq
import HandS.Walk
import HandS.Text
import HandS.WideBits
import PyProof.ReprRoads
import PyProof.ReprLen
import PyProof.StrLaws
import HandS.Comp
import PyProof.Rows.StrCase
import HandS.HeadHook4
import HandS.HeadEnd
import HandS.ExcOwn
import HandS.ExcIs
import HandS.WordsExc
import HandS.HotCalls
import KE.KTryMore
import HandS.ExcInitHot
import HandS.SetFor
import PyProof.StrLawsOccR
import PyProof.Rows.StrSplitMax
import HandS.FStr
import HandS.StrSplit
import HandS.TryOnly
import HandS.RaiseMore
import KE.GoesEnumKw
import PyProof.Rows.CallKwBuiltin
import HandS.Style
import HandS.ListItems
import HandS.SortRule
import HandS.Codes
import PyProof.CallStr
import KE.KUnpackStar
import KE.KFmtOwn
import PyProof.P3Eq
import PyProof.EqKinds
import HandS.OwnEq
import HandS.Hot
import HandS.SuiteRaise
import KE.KExcRaise
import HandS.Zip
import PyProof.IsRules
import PyProof.NeKinds
import KE.KEqDict
import KE.KEqNest
import HandS.DeepEq
import KE.DataCmp
import KE.DataMinMax
import KE.SortData
import PyProof.Rows.SortWalk
import HandS.Deep
import KE.KDictPairs
import PyProof.Rows.TupTab
import KE.GoesEnum
import HandS.Flow
import HandS.TupMul
import HandS.DictComp
import HandS.SortKw
import HandS.TupSets
import PySem.Challenge.RW_gapfill_k36_where_books_part
set_option Elab.async false
set_option linter.all false
set_option maxRecDepth 100000
set_option maxHeartbeats 4000000
/-! The data layer: readings that speak of data, not of the heap. -/
namespace Dl
open PySem PySem.Spec PyProof.Rows L2

/-- data; ptr: an object by its address (a pot, a def); seq: a list that is not shown; ty: a built-in class -/
inductive D where
  | non | bl (b : Bool) | int (i : Int) | str (x : Str) | tup (xs : List D) | lst (xs : List D) | emp | ptr (a : Addr) | seq (xs : List D) | ty (n : String)

/-- a tuple that is read and never one of the objects that may change -/
def SqTp (K : PySem.W.Frag) (p : List Addr) (H : Hp) (a : Addr) (xs : List V) : Prop :=
  (Rd H a (.tup xs) ∧ a ∉ p) ∨
    ∃ (o : Obj) (its : Array Value) (n : Nat), K.lookup a = some o ∧ o.cls = .type "tuple" ∧ o.data = .seq its n ∧ its.size ≤ sizeLine ∧ Vals xs its.toList
theorem SqTp.sq {K p H a xs} (h : SqTp K p H a xs) : SqT K H a xs := by
  rcases h with ⟨h, _⟩ | h
  · exact .inl h
  · exact .inr h
/-- all that is tracked stays, but what p names -/
def Ext (p : List Addr) (H H' : Hp) : Prop := ∀ b o, b ∉ p → H b = some o → H' b = some o
theorem Ext.refl (p H) : Ext p H H := fun _ _ _ h => h
theorem Ext.trans {p H H1 H2} (a : Ext p H H1) (b : Ext p H1 H2) : Ext p H H2 := fun c o n h => b c o n (a c o n h)
theorem Ext.of_same {p H H'} (h : Same H H') : Ext p H H' := fun b o _ e => h b o e
theorem Ext.new {p H a o} (h : H a = none) : Ext p H (upd H a o) := fun b u _ e => by
  rw [upd_ne (ne_of_none e h)]
  exact e
/-- what data that avoids p sees of a heap stays -/
abbrev Sees (p : List Addr) (H H' : Hp) : Prop := Ext p H H'
theorem SqTp.mono {K p H H' a xs} (e : Ext p H H') (h : SqTp K p H a xs) : SqTp K p H' a xs := by
  rcases h with ⟨h, n⟩ | h
  · rcases h with h | ⟨o, h⟩
    · exact .inl ⟨.inl (e _ _ n h), n⟩
    · exact .inl ⟨.inr ⟨o, e _ _ n h⟩, n⟩
  · exact .inr h
theorem SqTp.weak {K p p' H a xs} (e : ∀ b ∈ p', b ∈ p) (h : SqTp K p H a xs) : SqTp K p' H a xs := by
  rcases h with ⟨h, n⟩ | h
  · exact .inl ⟨h, fun m => n (e _ m)⟩
  · exact .inr h

mutual
inductive Rep (K : PySem.W.Frag) (p : List Addr) (H : Hp) : V → D → Prop
  | non : Rep K p H .non .non
  | bl (b : Bool) : Rep K p H (.bl b) (.bl b)
  | int (i : Int) : Rep K p H (.int i) (.int i)
  | str (x : Str) : Rep K p H (.str x) (.str x)
  | tup {a : Addr} {xs : List V} {ds : List D} : SqTp K p H a xs → RepAll K p H xs ds → Rep K p H (.ref a) (.tup ds)
  | lst {a : Addr} {xs : List V} {ds : List D} : H a = some (.lst xs) → a ∉ p → a ≠ sysModules → RepAll K p H xs ds → Rep K p H (.ref a) (.lst ds)
  | emp {a : Addr} : H a = some (.dK []) → a ∉ p → Rep K p H (.ref a) .emp
  | ptr (a : Addr) : Rep K p H (.ref a) (.ptr a)
  | seq {a : Addr} {xs : List V} {ds : List D} : H a = some (.lst xs) → a ∉ p → RepAll K p H xs ds → Rep K p H (.ref a) (.seq ds)
  | ty (n : String) : Rep K p H (.ty n) (.ty n)
inductive RepAll (K : PySem.W.Frag) (p : List Addr) (H : Hp) : List V → List D → Prop
  | nil : RepAll K p H [] []
  | cons {v : V} {vs : List V} {d : D} {ds : List D} : Rep K p H v d → RepAll K p H vs ds → RepAll K p H (v :: vs) (d :: ds)
end
section
variable {K : PySem.W.Frag} {p : List Addr} {H H' : Hp}
mutual
theorem Rep.mono0 (e : Ext p H H') : ∀ {v : V} {d : D}, Rep K p H v d → Rep K p H' v d
  | _, _, .non => .non
  | _, _, .bl b => .bl b
  | _, _, .int i => .int i
  | _, _, .str x => .str x
  | _, _, .tup h r => .tup (h.mono e) (RepAll.mono0 e r)
  | _, _, .lst h n z r => .lst (e _ _ n h) n z (RepAll.mono0 e r)
  | _, _, .seq h n r => .seq (e _ _ n h) n (RepAll.mono0 e r)
  | _, _, .ty n => .ty n
  | _, _, .emp h n => .emp (e _ _ n h) n
  | _, _, .ptr a => .ptr a
theorem RepAll.mono0 (e : Ext p H H') : ∀ {vs : List V} {ds : List D}, RepAll K p H vs ds → RepAll K p H' vs ds
  | _, _, .nil => .nil
  | _, _, .cons h t => .cons (Rep.mono0 e h) (RepAll.mono0 e t)
end
mutual
theorem Rep.weak {p' : List Addr} (e : ∀ b ∈ p', b ∈ p) : ∀ {v : V} {d : D}, Rep K p H v d → Rep K p' H v d
  | _, _, .non => .non
  | _, _, .bl b => .bl b
  | _, _, .int i => .int i
  | _, _, .str x => .str x
  | _, _, .tup h r => .tup (h.weak e) (RepAll.weak e r)
  | _, _, .lst h n z r => .lst h (fun m => n (e _ m)) z (RepAll.weak e r)
  | _, _, .emp h n => .emp h (fun m => n (e _ m))
  | _, _, .ptr a => .ptr a
  | _, _, .seq h n r => .seq h (fun m => n (e _ m)) (RepAll.weak e r)
  | _, _, .ty n => .ty n
theorem RepAll.weak {p' : List Addr} (e : ∀ b ∈ p', b ∈ p) : ∀ {vs : List V} {ds : List D}, RepAll K p H vs ds → RepAll K p' H vs ds
  | _, _, .nil => .nil
  | _, _, .cons h t => .cons (Rep.weak e h) (RepAll.weak e t)
end
theorem RepAll.length : ∀ {vs : List V} {ds : List D}, RepAll K p H vs ds → vs.length = ds.length
  | _, _, .nil => rfl
  | _, _, .cons _ t => congrArg (· + 1) (RepAll.length t)
theorem RepAll.get : ∀ {vs : List V} {ds : List D} {i : Nat} {d : D}, RepAll K p H vs ds → ds[i]? = some d → ∃ v, vs[i]? = some v ∧ Rep K p H v d
  | _, _, _, _, .nil, e => by simp at e
  | _, _, 0, _, .cons r _, e => by simp at e; subst e; exact ⟨_, rfl, r⟩
  | _, _, i + 1, d, .cons _ t, e => by
    obtain ⟨v, h1, h2⟩ := RepAll.get (i := i) (d := d) t (by simpa using e)
    exact ⟨v, by simpa using h1, h2⟩
theorem RepAll.get' : ∀ {vs : List V} {ds : List D} {i : Nat} {v : V}, RepAll K p H vs ds → vs[i]? = some v → ∃ d, ds[i]? = some d ∧ Rep K p H v d
  | _, _, _, _, .nil, e => by simp at e
  | _, _, 0, _, .cons r _, e => by simp at e; subst e; exact ⟨_, rfl, r⟩
  | _, _, i + 1, v, .cons _ t, e => by
    obtain ⟨d, h1, h2⟩ := RepAll.get' (i := i) (v := v) t (by simpa using e)
    exact ⟨d, by simpa using h1, h2⟩
theorem RepAll.append : ∀ {xs ys : List V} {ds es : List D}, RepAll K p H xs ds → RepAll K p H ys es → RepAll K p H (xs ++ ys) (ds ++ es)
  | _, _, _, _, .nil, s => s
  | _, _, _, _, .cons r t, s => .cons r (RepAll.append t s)
theorem RepAll.take : ∀ {xs : List V} {ds : List D} (n : Nat), RepAll K p H xs ds → RepAll K p H (xs.take n) (ds.take n)
  | _, _, 0, _ => .nil
  | _, _, _ + 1, .nil => .nil
  | _, _, n + 1, .cons r t => .cons r (RepAll.take n t)
theorem RepAll.drop : ∀ {xs : List V} {ds : List D} (n : Nat), RepAll K p H xs ds → RepAll K p H (xs.drop n) (ds.drop n)
  | _, _, 0, r => r
  | _, _, _ + 1, .nil => .nil
  | _, _, n + 1, .cons _ t => RepAll.drop n t
theorem RepAll.reverse : ∀ {xs : List V} {ds : List D}, RepAll K p H xs ds → RepAll K p H xs.reverse ds.reverse
  | _, _, .nil => .nil
  | _, _, .cons r t => by
    rw [List.reverse_cons, List.reverse_cons]
    exact (RepAll.reverse t).append (.cons r .nil)
theorem RepAll.nil_iff {xs : List V} {ds : List D} (r : RepAll K p H xs ds) : xs = [] ↔ ds = [] := by
  have := r.length
  constructor
  · intro e; subst e; cases r; rfl
  · intro e; subst e; cases r; rfl
end

/-- p: the objects that may change; n: those that no data uses and that stay; what is known: Sp of the first, it leans on them alone, Ss of all that stays -/
structure Res where
  p : List Addr
  n : List Addr
  Sp : Hp → Prop
  Ss : Hp → Prop
  nin : ∀ H a, Sp H → Ss H → H a = none → a ∉ p ++ n
  dep : ∀ H H', (∀ a ∈ p, H' a = H a) → Sp H → Sp H'
  mono : ∀ H H', Ext p H H' → Ss H → Ss H'
def Res.S (R : Res) (H : Hp) : Prop := R.Sp H ∧ R.Ss H
theorem Res.new (R : Res) (H : Hp) (a : Addr) (o : HO) (h : R.S H) (n : H a = none) : R.S (upd H a o) := ⟨R.dep H _ (fun b m => by
  have ne : b ≠ a := fun e => R.nin H a h.1 h.2 n (List.mem_append_left _ (e ▸ m))
  exact upd_ne ne) h.1, R.mono H _ (Ext.new n) h.2⟩
/-- what data avoids -/
abbrev Res.av (R : Res) : List Addr := R.p ++ R.n
def Pot (R : Res) (H : Hp) : Prop := R.S H
theorem Pot.nin {R : Res} {H : Hp} {a : Addr} (h : Pot R H) (n : H a = none) : a ∉ R.av := R.nin H a h.1 h.2 n
/-- the parts that may change as at one heap, all else as ahead -/
theorem Pot.mix {R : Res} {H1 H2 H' : Hp} (h1 : Pot R H1) (e : Ext R.p H1 H') (h2 : Pot R H2) (k : ∀ a ∈ R.p, H' a = H2 a) : Pot R H' := ⟨R.dep H2 H' k h2.1, R.mono H1 H' e h1.2⟩
theorem Pot.new {R : Res} {H : Hp} {a : Addr} {o : HO} (h : Pot R H) (n : H a = none) : Pot R (upd H a o) := R.new H a o h n
theorem Ext.av {R : Res} {H H' : Hp} (e : Ext R.p H H') : Ext R.av H H' := fun b o n h => e b o (fun m => n (List.mem_append_left _ m)) h
theorem Rep.mono {K : PySem.W.Frag} {R : Res} {H H' : Hp} {v : V} {d : D} (h : Rep K R.av H v d) (e : Ext R.p H H') : Rep K R.av H' v d := Rep.mono0 e.av h
theorem RepAll.mono {K : PySem.W.Frag} {R : Res} {H H' : Hp} {v : List V} {d : List D} (h : RepAll K R.av H v d) (e : Ext R.p H H') : RepAll K R.av H' v d := RepAll.mono0 e.av h
/-- an object that data avoids is changed -/
theorem Ext.put {p : List Addr} {H : Hp} {a : Addr} {o : HO} (m : a ∈ p) : Ext p H (upd H a o) := fun b u n h => by
  have ne : b ≠ a := fun e => n (by rw [e]; exact m)
  rw [upd_ne ne]
  exact h
/-- nothing may change -/
def Res.none : Res := ⟨[], [], fun _ => True, fun _ => True, fun _ _ _ _ _ m => absurd m (by simp), fun _ _ _ _ => trivial, fun _ _ _ _ => trivial⟩
/-- one more that no data uses -/
def Res.add (R : Res) (A : Addr) : Res where
  p := R.p
  n := A :: R.n
  Sp := R.Sp
  Ss := fun H => R.Ss H ∧ A ∉ R.p ∧ H A ≠ Option.none
  nin := fun H a h ⟨h2, _, e⟩ n m => by
    rcases List.mem_append.mp m with m | m
    · exact R.nin H a h h2 n (List.mem_append_left _ m)
    · rcases List.mem_cons.mp m with rfl | m
      · exact e n
      · exact R.nin H a h h2 n (List.mem_append_right _ m)
  dep := R.dep
  mono := fun H H' k ⟨h, m, e⟩ => ⟨R.mono H H' k h, m, by
    cases q : H A with
    | none => exact absurd q e
    | some o => rw [k A o m q]; exact fun z => nomatch z⟩
theorem Pot.add {R : Res} {A : Addr} {H : Hp} (h : Pot R H) (m : A ∉ R.p) (e : H A ≠ Option.none) : Pot (R.add A) H := ⟨h.1, h.2, m, e⟩
theorem Pot.of_add {R : Res} {A : Addr} {H : Hp} (h : Pot (R.add A) H) : Pot R H := ⟨h.1, h.2.1⟩
theorem Res.add_av {R : Res} {A b : Addr} (h : b ∈ R.av) : b ∈ (R.add A).av := by
  rcases List.mem_append.mp h with m | m
  · exact List.mem_append_left _ m
  · exact List.mem_append_right _ (List.mem_cons_of_mem _ m)
theorem Res.add_mem {R : Res} {A : Addr} : A ∈ (R.add A).av := List.mem_append_right _ List.mem_cons_self
/-- a pot: a list of three ints that may change -/
structure PotAt (a : Addr) (R : Res) : Prop where
  mem : a ∈ R.p
  at_ : ∀ H, R.S H → ∃ x y z : Int, H a = some (.lst [.int x, .int y, .int z])
  put : ∀ H (x y z : Int), R.S H → R.S (upd H a (.lst [.int x, .int y, .int z]))
theorem PotAt.add {a A : Addr} {R : Res} (h : PotAt a R) : PotAt a (R.add A) := ⟨h.mem, fun H s => h.at_ H (Pot.of_add s), fun H x y z s => Pot.add (h.put H x y z (Pot.of_add s)) s.2.2.1 (by
  by_cases e : A = a
  · rw [e, upd_same]; exact fun q => nomatch q
  · rw [upd_ne e]; exact s.2.2.2)⟩
/-- the one pot at a -/
def Res.pot (a : Addr) : Res where
  p := [a]
  n := []
  Sp := fun H => ∃ x y z : Int, H a = some (.lst [.int x, .int y, .int z])
  Ss := fun _ => True
  nin := fun H b ⟨x, y, z, e⟩ _ n m => by
    have e' : b = a := by simpa using m
    subst e'
    rw [n] at e; cases e
  dep := fun H H' k ⟨x, y, z, e⟩ => ⟨x, y, z, by rw [k a (by simp)]; exact e⟩
  mono := fun _ _ _ _ => trivial
theorem PotAt.one (a : Addr) : PotAt a (Res.pot a) := ⟨by show a ∈ [a]; simp, fun _ h => h.1, fun H x y z _ => ⟨⟨x, y, z, upd_same⟩, trivial⟩⟩

/-- the slots, as data -/
abbrev DE := List (Option D)
def REnv (K : PySem.W.Frag) (p : List Addr) (H : Hp) (σ : L2.St) (ρ : DE) : Prop :=
  ρ.length = σ.length ∧ ∀ (i : Nat) (d : D), ρ[i]? = some (some d) → ∃ v, σ[i]? = some (some v) ∧ Rep K p H v d
theorem REnv.mono0 {K p H H'} {σ : L2.St} {ρ : DE} (e : Ext p H H') (h : REnv K p H σ ρ) : REnv K p H' σ ρ := ⟨h.1, fun i d q => by
  obtain ⟨v, h1, h2⟩ := h.2 i d q
  exact ⟨v, h1, h2.mono0 e⟩⟩
theorem REnv.mono {K : PySem.W.Frag} {R : Res} {H H' : Hp} {σ : L2.St} {ρ : DE} (h : REnv K R.av H σ ρ) (e : Ext R.p H H') : REnv K R.av H' σ ρ := h.mono0 e.av
theorem REnv.set {K p H} {σ : L2.St} {ρ : DE} {v d} (h : REnv K p H σ ρ) (r : Rep K p H v d) (i : Nat) : REnv K p H (σ.set i (some v)) (ρ.set i (some d)) := by
  refine ⟨by rw [List.length_set, List.length_set]; exact h.1, fun j e q => ?_⟩
  by_cases hj : i = j
  · subst hj
    have hl : i < ρ.length := by
      have := (List.getElem?_eq_some_iff.mp q).1
      rwa [List.length_set] at this
    rw [List.getElem?_set_self hl] at q
    cases q
    exact ⟨v, List.getElem?_set_self (by rw [← h.1]; exact hl), r⟩
  · rw [List.getElem?_set_ne hj] at q
    rw [List.getElem?_set_ne hj]
    exact h.2 j e q
theorem REnv.get {K p H} {σ : L2.St} {ρ : DE} {i : Nat} {d : D} (h : REnv K p H σ ρ) (q : ρ[i]? = some (some d)) : ∃ v, σ[i]? = some (some v) ∧ Rep K p H v d := h.2 i d q

/-- what is wanted of a value -/
def Fin (K : PySem.W.Frag) (p : Res) (H : Hp) (q : D → Prop) (Q : VK) : Prop := ∀ d v H', q d → Rep K p.av H' v d → Ext p.p H H' → Pot p H' → Q v H'
def FinB (p : Res) (H : Hp) (q : Bool → Prop) (Q : Bool → Hp → Prop) : Prop := ∀ b H', q b → Ext p.p H H' → Pot p H' → Q b H'
def FinA (K : PySem.W.Frag) (p : Res) (H : Hp) (q : List D → Prop) (Q : List V → Hp → Prop) : Prop := ∀ ds vs H', q ds → RepAll K p.av H' vs ds → Ext p.p H H' → Pot p H' → Q vs H'
theorem Fin.step {K} {p : Res} {H H' q Q} (e : Ext p.p H H') (f : Fin K p H q Q) : Fin K p H' q Q := fun d v H'' h r x t => f d v H'' h r (e.trans x) t
theorem FinB.step {p : Res} {H H' q Q} (e : Ext p.p H H') (f : FinB p H q Q) : FinB p H' q Q := fun b H'' h x t => f b H'' h (e.trans x) t
theorem FinA.step {K} {p : Res} {H H' q Q} (e : Ext p.p H H') (f : FinA K p H q Q) : FinA K p H' q Q := fun d v H'' h r x t => f d v H'' h r (e.trans x) t

abbrev TDE := DE → (D → Prop) → Prop
abbrev TDT := DE → (Bool → Prop) → Prop
abbrev TDA := DE → (List D → Prop) → Prop
structure DEnds where
  nx : DE → Prop
  rt : D → Prop
abbrev TDS := DEnds → DE → Prop
def tD (K : PySem.W.Frag) (p : Res) (t : TDE) : TE := fun σ H Q => ∃ ρ q, REnv K p.av H σ ρ ∧ Pot p H ∧ t ρ q ∧ Fin K p H q Q
def tDT (K : PySem.W.Frag) (p : Res) (t : TDT) : TT := fun σ H Q => ∃ ρ q, REnv K p.av H σ ρ ∧ Pot p H ∧ t ρ q ∧ FinB p H q Q
def tDA (K : PySem.W.Frag) (p : Res) (t : TDA) : TA := fun σ H Q => ∃ ρ q, REnv K p.av H σ ρ ∧ Pot p H ∧ t ρ q ∧ FinA K p H q Q
structure FinS (K : PySem.W.Frag) (p : Res) (H : Hp) (e : DEnds) (E : Ends) : Prop where
  nx : ∀ ρ σ H', e.nx ρ → REnv K p.av H' σ ρ → Ext p.p H H' → Pot p H' → E.nx σ H'
  rt : Fin K p H e.rt E.rt
theorem FinS.step {K} {p : Res} {H H' e E} (x : Ext p.p H H') (f : FinS K p H e E) : FinS K p H' e E := ⟨fun ρ σ H'' h r y t => f.nx ρ σ H'' h r (x.trans y) t, f.rt.step x⟩
def tDS (K : PySem.W.Frag) (p : Res) (t : TDS) : TS := fun E σ H => ∃ ρ e, REnv K p.av H σ ρ ∧ Pot p H ∧ t e ρ ∧ FinS K p H e E

abbrev EE (X : Cx) (p : Res) (e : Expr) (t : TDE) : Prop := PE X e (tD X.K p t)
abbrev ET (X : Cx) (p : Res) (e : Expr) (t : TDT) : Prop := PT X e (tDT X.K p t)
abbrev EW (X : Cx) (p : Res) (e : Expr) (t : TDT) : Prop := PW X e (tDT X.K p t)
abbrev EA (X : Cx) (p : Res) (es : List Expr) (t : TDA) : Prop := PA X es (tDA X.K p t)
abbrev ES (X : Cx) (p : Res) (s : Stmt) (t : TDS) : Prop := PS X s (tDS X.K p t)
abbrev ESs (X : Cx) (p : Res) (s : List Stmt) (t : TDS) : Prop := PSs X s (tDS X.K p t)

section
variable {X : Cx} {p : Res}
theorem PE_imp {e : Expr} {t t' : TE} (h : PE X e t) (i : ∀ σ H Q, t' σ H Q → t σ H Q) : PE X e t' := ⟨fun pins s σ H Q I w => h.run pins s σ H Q I (i σ H Q w)⟩
theorem PT_imp {e : Expr} {t t' : TT} (h : PT X e t) (i : ∀ σ H Q, t' σ H Q → t σ H Q) : PT X e t' := ⟨fun pins s σ H Q I w => h.run pins s σ H Q I (i σ H Q w)⟩
theorem PW_imp {e : Expr} {t t' : TT} (h : PW X e t) (i : ∀ σ H Q, t' σ H Q → t σ H Q) : PW X e t' := ⟨fun wh pins s σ H Q I w => h.run wh pins s σ H Q I (i σ H Q w)⟩
theorem PA_imp {e : List Expr} {t t' : TA} (h : PA X e t) (i : ∀ σ H Q, t' σ H Q → t σ H Q) : PA X e t' := ⟨fun pos pins s σ H Q I w => h.run pos pins s σ H Q I (i σ H Q w)⟩
theorem PS_imp {e : Stmt} {t t' : TS} (h : PS X e t) (i : ∀ D σ H, t' D σ H → t D σ H) : PS X e t' := ⟨fun pins s σ H D I w => h.run pins s σ H D I (i D σ H w)⟩
theorem PSs_imp {e : List Stmt} {t t' : TS} (h : PSs X e t) (i : ∀ D σ H, t' D σ H → t D σ H) : PSs X e t' := ⟨fun pins s σ H D I w => h.run pins s σ H D I (i D σ H w)⟩
/-- a reading may be strengthened -/
theorem EE.imp {e : Expr} {t t' : TDE} (h : EE X p e t) (i : ∀ ρ q, t' ρ q → t ρ q) : EE X p e t' := PE_imp h fun σ H Q ⟨ρ, q, r, o, w, f⟩ => ⟨ρ, q, r, o, i _ _ w, f⟩

/-! ### names, constants -/
def vVar (i : Nat) : TDE := fun ρ q => ∃ d, ρ[i]? = some (some d) ∧ q d
def vC (d : D) : TDE := fun _ q => q d
theorem dv (i : Nat) {x : Str} {pos : Pos} (hN : X.N[i]? = some x := by rfl) (hv : Vis X.env.scope x := by first | exact Or.inl rfl | exact Or.inr (Or.inl rfl) | exact Or.inr (Or.inr rfl)) (hd : (x == ("__debug__" : Str)) = false := by decide)
    (hcd : (x == ("__classdict__" : Str)) = false := by decide) : EE X p (.Name x pos) (vVar i) := PE_imp (pe_var hN hv hd hcd) fun σ H Q ⟨ρ, q, r, o, ⟨d, e, w⟩, f⟩ => by
  obtain ⟨v, h1, h2⟩ := r.get e
  exact ⟨v, h1, f d v H w h2 (Ext.refl _ _) o⟩
theorem d_of_c {e : Expr} {v : V} {d : D} (h : PE X e (tC v)) (r : ∀ H, Rep X.K p.av H v d) : EE X p e (vC d) := PE_imp h fun σ H Q ⟨ρ, q, _, o, w, f⟩ => f d v H w (r H) (Ext.refl _ _) o
theorem d_int {i j pos} : EE X p (.Constant (.int i) j pos) (vC (.int i)) := d_of_c pe_int fun _ => .int i
theorem d_bl {i j pos} : EE X p (.Constant (.bool i) j pos) (vC (.bl i)) := d_of_c pe_bl fun _ => .bl i
theorem d_non {j pos} : EE X p (.Constant .none j pos) (vC .non) := d_of_c pe_non fun _ => .non
theorem d_str {i j pos} : EE X p (.Constant (.str i) j pos) (vC (.str i)) := d_of_c pe_str fun _ => .str i
theorem d_gint {x : Str} {i : Int} {t : Tok} {pos : Pos} (hm : X.mg x = some (.int i t)) (hg : Gl X x := by rfl) (hd : (x == ("__debug__" : Str)) = false := by decide) : EE X p (.Name x pos) (vC (.int i)) := d_of_c (v := .int i) (pe_glob hg hm ⟨t, rfl⟩ hd) fun _ => .int i
theorem d_gstr {x : Str} {i : Str} {t : Tok} {pos : Pos} (hm : X.mg x = some (.str i t)) (hg : Gl X x := by rfl) (hd : (x == ("__debug__" : Str)) = false := by decide) : EE X p (.Name x pos) (vC (.str i)) := d_of_c (v := .str i) (pe_glob hg hm ⟨t, rfl⟩ hd) fun _ => .str i
theorem d_gptr {x : Str} {a : Addr} {pos : Pos} (hm : X.mg x = some (.ref a)) (hg : Gl X x := by rfl) (hd : (x == ("__debug__" : Str)) = false := by decide) : EE X p (.Name x pos) (vC (.ptr a)) := d_of_c (pe_glob (v := .ref a) hg hm rfl hd) fun _ => .ptr a

/-! ### operations by values -/
abbrev DOp := D → D → (D → Prop) → Prop
/-- a rule by values answers an operation on data -/
def OpD (K : PySem.W.Frag) (p : Res) (r : R2) (op : DOp) : Prop := ∀ x y dx dy H q Q, Rep K p.av H x dx → Rep K p.av H y dy → Pot p H → op dx dy q → Fin K p H q Q → r x y H Q
def vOp (op : DOp) (ta tb : TDE) : TDE := fun ρ q => ta ρ fun dx => tb ρ fun dy => op dx dy q
theorem tOp_of {r : R2} {op : DOp} {ta tb : TDE} (h : OpD X.K p r op) : ∀ σ H Q, tD X.K p (vOp op ta tb) σ H Q → tOp r (tD X.K p ta) (tD X.K p tb) σ H Q := by
  rintro σ H Q ⟨ρ, q, hr, ho, w, f⟩
  refine ⟨ρ, _, hr, ho, w, fun dx x H1 w1 r1 e1 o1 => ?_⟩
  refine ⟨ρ, _, hr.mono e1, o1, w1, fun dy y H2 w2 r2 e2 o2 => ?_⟩
  exact h x y dx dy H2 q Q (r1.mono e2) r2 o2 w2 (f.step (e1.trans e2))
theorem d_op {a b : Expr} {pos : Pos} {o : Operator} {r : R2} {op : DOp} {ta tb : TDE} (h : OpD X.K p r op) (ho : OpR X (binaryOp o) r) (ha : EE X p a ta) (hb : EE X p b tb) : EE X p (.BinOp a o b pos) (vOp op ta tb) := PE_imp (pe_op ho ha hb) (tOp_of h)
theorem d_cmp {a b : Expr} {pos : Pos} {o : CmpOp} {r : R2} {op : DOp} {ta tb : TDE} (h : OpD X.K p r op) (ho : OpR X (compareOp o) r) (ha : EE X p a ta) (hb : EE X p b tb) (hm : behindInMarks o b = false := by first | exact nomark _ | rfl) :
    EE X p (.Compare a [o] [b] pos) (vOp op ta tb) := PE_imp (pe_cmpR ho ha hb hm) (tOp_of h)
/-- a value as a test -/
def vT (t : TDE) : TDT := fun ρ q => t ρ fun d => ∃ b, d = .bl b ∧ q b
theorem FinB.of {K} {p : Res} {H} {q : Bool → Prop} {Q : Bool → Hp → Prop} (f : FinB p H q Q) : Fin K p H (fun d => ∃ b, d = .bl b ∧ q b) fun x H1 => ∃ c, x = .bl c ∧ Q c H1 := by
  rintro d v H' ⟨b, rfl, w⟩ r e o
  cases r
  exact ⟨b, rfl, f b H' w e o⟩
theorem tB_of {t : TDE} : ∀ σ H Q, tDT X.K p (vT t) σ H Q → tB (tD X.K p t) σ H Q := fun σ H Q ⟨ρ, q, hr, ho, w, f⟩ => ⟨ρ, _, hr, ho, w, f.of⟩
theorem t_cmp {a b : Expr} {pos : Pos} {o : CmpOp} {r : R2} {op : DOp} {ta tb : TDE} (h : OpD X.K p r op) (ho : OpR X (compareOp o) r) (ha : EE X p a ta) (hb : EE X p b tb) (hm : behindInMarks o b = false := by first | exact nomark _ | rfl) :
    ET X p (.Compare a [o] [b] pos) (vT (vOp op ta tb)) := PT_imp (pt_cmpR ho ha hb hm) fun σ H Q ⟨ρ, q, hr, h0, w, f⟩ => tOp_of h σ H _ ⟨ρ, _, hr, h0, w, f.of⟩
/-- any other expression whose value is a bool -/
theorem t_val {e : Expr} {t : TDE} (h : EE X p e t) (he : ∀ whole, isTrue e X.env whole = (do let v ← whole; standAt e.pos; holding [v] (truthy v)) := by intro _; rfl) : ET X p e (vT t) := PT_imp (pt_val h he) tB_of

/-! ### and, or, not, a if c else b -/
def vAndV (ta tb : TDE) : TDE := fun ρ q => ta ρ fun d => ∃ b, d = .bl b ∧ if b = true then tb ρ q else q (.bl false)
def vOrV (ta tb : TDE) : TDE := fun ρ q => ta ρ fun d => ∃ b, d = .bl b ∧ if b = true then q (.bl true) else tb ρ q
def vNotV (ta : TDE) : TDE := fun ρ q => ta ρ fun d => ∃ b, d = .bl b ∧ q (.bl (!b))
def vAnd (ta tb : TDT) : TDT := fun ρ q => ta ρ fun b => if b = true then tb ρ q else q false
def vOr (ta tb : TDT) : TDT := fun ρ q => ta ρ fun b => if b = true then q true else tb ρ q
def vNot (ta : TDT) : TDT := fun ρ q => ta ρ fun b => q (!b)
variable {a b c : Expr} {pos : Pos} {rest : List Expr} {ta tb tc : TDE} {ua ub : TDT}
theorem d_one {o : BoolOp} (h : EE X p a ta) : EE X p (.BoolOp o [a] pos) ta := pe_one h
theorem d_and (ha : EE X p a ta) (hb : EE X p (.BoolOp .And (b :: rest) pos) tb) : EE X p (.BoolOp .And (a :: b :: rest) pos) (vAndV ta tb) := PE_imp (pe_and ha hb) fun σ H Q ⟨ρ, q, hr, ho, w, f⟩ => by
  refine ⟨ρ, _, hr, ho, w, ?_⟩
  rintro d v H1 ⟨k, rfl, w1⟩ r e o
  cases r
  refine ⟨k, rfl, ?_⟩
  cases k with
  | true => rw [if_pos rfl] at w1 ⊢; exact ⟨ρ, q, hr.mono e, o, w1, f.step e⟩
  | false => rw [if_neg Bool.false_ne_true] at w1 ⊢; exact f _ _ H1 w1 (.bl _) e o
theorem d_or (ha : EE X p a ta) (hb : EE X p (.BoolOp .Or (b :: rest) pos) tb) : EE X p (.BoolOp .Or (a :: b :: rest) pos) (vOrV ta tb) := PE_imp (pe_or ha hb) fun σ H Q ⟨ρ, q, hr, ho, w, f⟩ => by
  refine ⟨ρ, _, hr, ho, w, ?_⟩
  rintro d v H1 ⟨k, rfl, w1⟩ r e o
  cases r
  refine ⟨k, rfl, ?_⟩
  cases k with
  | true => rw [if_pos rfl] at w1 ⊢; exact f _ _ H1 w1 (.bl _) e o
  | false => rw [if_neg Bool.false_ne_true] at w1 ⊢; exact ⟨ρ, q, hr.mono e, o, w1, f.step e⟩
theorem d_not (ha : EE X p a ta) : EE X p (.UnaryOp .Not a pos) (vNotV ta) := PE_imp (pe_not ha) fun σ H Q ⟨ρ, q, hr, ho, w, f⟩ => by
  refine ⟨ρ, _, hr, ho, w, ?_⟩
  rintro d v H1 ⟨k, rfl, w1⟩ r e o
  cases r
  exact ⟨k, rfl, f _ _ H1 w1 (.bl _) e o⟩
theorem t_and1 (ha : ET X p a ua) : EW X p (.BoolOp .And [a] pos) ua := pw_and1 ha
theorem t_or1 (ha : ET X p a ua) : EW X p (.BoolOp .Or [a] pos) ua := pw_or1 ha
theorem t_and (ha : ET X p a ua) (hb : EW X p (.BoolOp .And (b :: rest) pos) ub) : EW X p (.BoolOp .And (a :: b :: rest) pos) (vAnd ua ub) := PW_imp (pw_and ha hb) fun σ H Q ⟨ρ, q, hr, ho, w, f⟩ => by
  refine ⟨ρ, _, hr, ho, w, ?_⟩
  rintro k H1 w1 e o
  cases k with
  | true => rw [if_pos rfl] at w1 ⊢; exact ⟨ρ, q, hr.mono e, o, w1, f.step e⟩
  | false => rw [if_neg Bool.false_ne_true] at w1 ⊢; exact f _ H1 w1 e o
theorem t_or (ha : ET X p a ua) (hb : EW X p (.BoolOp .Or (b :: rest) pos) ub) : EW X p (.BoolOp .Or (a :: b :: rest) pos) (vOr ua ub) := PW_imp (pw_or ha hb) fun σ H Q ⟨ρ, q, hr, ho, w, f⟩ => by
  refine ⟨ρ, _, hr, ho, w, ?_⟩
  rintro k H1 w1 e o
  cases k with
  | true => rw [if_pos rfl] at w1 ⊢; exact f _ H1 w1 e o
  | false => rw [if_neg Bool.false_ne_true] at w1 ⊢; exact ⟨ρ, q, hr.mono e, o, w1, f.step e⟩
theorem t_not (ha : ET X p a ua) : ET X p (.UnaryOp .Not a pos) (vNot ua) := PT_imp (pt_not ha) fun σ H Q ⟨ρ, q, hr, ho, w, f⟩ => ⟨ρ, _, hr, ho, w, fun k H1 w1 e o => f _ H1 w1 e o⟩
def vIf (t : TDT) (ta tb : TDE) : TDE := fun ρ q => t ρ fun k => if k = true then ta ρ q else tb ρ q
theorem d_ifExp (hc : ET X p c ua) (ha : EE X p a ta) (hb : EE X p b tb) : EE X p (.IfExp c a b pos) (vIf ua ta tb) := PE_imp (pe_ifExp hc ha hb) fun σ H Q ⟨ρ, q, hr, ho, w, f⟩ => by
  refine ⟨ρ, _, hr, ho, w, ?_⟩
  rintro k H1 w1 e o
  cases k with
  | true => rw [if_pos rfl] at w1 ⊢; exact ⟨ρ, q, hr.mono e, o, w1, f.step e⟩
  | false => rw [if_neg Bool.false_ne_true] at w1 ⊢; exact ⟨ρ, q, hr.mono e, o, w1, f.step e⟩

/-! ### chains -/
/-- a op b op' c -/
def vChain (op op' : DOp) (ta tb tc : TDE) : TDE := fun ρ q => ta ρ fun dx => tb ρ fun dy => op dx dy fun z => ∃ k, z = .bl k ∧ if k = true then tc ρ fun dz => op' dy dz q else q (.bl false)
theorem tChain_of {r r' : R2} {op op' : DOp} (h : OpD X.K p r op) (h' : OpD X.K p r' op') : ∀ σ H Q, tD X.K p (vChain op op' ta tb tc) σ H Q → tChain r r' (tD X.K p ta) (tD X.K p tb) (tD X.K p tc) σ H Q := by
  rintro σ H Q ⟨ρ, q, hr, ho, w, f⟩
  refine ⟨ρ, _, hr, ho, w, fun dx x H1 w1 r1 e1 o1 => ?_⟩
  refine ⟨ρ, _, hr.mono e1, o1, w1, fun dy y H2 w2 r2 e2 o2 => ?_⟩
  refine h x y dx dy H2 _ _ (r1.mono e2) r2 o2 w2 ?_
  rintro d z H3 ⟨k, rfl, w3⟩ r3 e3 o3
  cases r3
  refine ⟨k, rfl, ?_⟩
  have e := (e1.trans e2).trans e3
  cases k with
  | true =>
    rw [if_pos rfl] at w3 ⊢
    refine ⟨ρ, _, hr.mono e, o3, w3, fun dz z H4 w4 r4 e4 o4 => ?_⟩
    exact h' y z dy dz H4 q Q (r2.mono (e3.trans e4)) r4 o4 w4 (f.step (e.trans e4))
  | false => rw [if_neg Bool.false_ne_true] at w3 ⊢; exact f _ _ H3 w3 (.bl _) e o3
theorem d_chain {o o' : CmpOp} {r r' : R2} {op op' : DOp} (h : OpD X.K p r op) (h' : OpD X.K p r' op') (ho : OpR X (compareOp o) r) (ho' : OpR X (compareOp o') r') (ha : EE X p a ta) (hb : EE X p b tb) (hc : EE X p c tc)
    (hm : lastMarks [o, o'] [b, c] = false := by with_unfolding_all rfl) : EE X p (.Compare a [o, o'] [b, c] pos) (vChain op op' ta tb tc) := PE_imp (pe_chain ho ho' ha hb hc hm) (tChain_of h h')
theorem t_chain {o o' : CmpOp} {r r' : R2} {op op' : DOp} (h : OpD X.K p r op) (h' : OpD X.K p r' op') (ho : OpR X (compareOp o) r) (ho' : OpR X (compareOp o') r') (ha : EE X p a ta) (hb : EE X p b tb) (hc : EE X p c tc)
    (hm : lastMarks [o, o'] [b, c] = false := by with_unfolding_all rfl) : ET X p (.Compare a [o, o'] [b, c] pos) (vT (vChain op op' ta tb tc)) :=
  PT_imp (pt_chain ho ho' ha hb hc hm) fun σ H Q ⟨ρ, q, hr, h0, w, f⟩ => tChain_of h h' σ H _ ⟨ρ, _, hr, h0, w, f.of⟩

/-! ### argument lists, displays -/
def vNil : TDA := fun _ q => q []
def vCons (ta : TDE) (tr : TDA) : TDA := fun ρ q => ta ρ fun d => tr ρ fun ds => q (d :: ds)
theorem a_nil : EA X p [] vNil := PA_imp pa_nil fun σ H Q ⟨ρ, q, hr, ho, w, f⟩ => f [] [] H w .nil (Ext.refl _ _) ho
theorem a_cons {e : Expr} {es : List Expr} {te : TDE} {t : TDA} (ha : EE X p e te) (hr : EA X p es t) (hs : starEach (e :: es) X.env = (false, eval e X.env) :: starEach es X.env := by rfl) : EA X p (e :: es) (vCons te t) :=
  PA_imp (pa_cons ha hr hs) fun σ H Q ⟨ρ, q, hr, ho, w, f⟩ => by
    refine ⟨ρ, _, hr, ho, w, fun d v H1 w1 r1 e1 o1 => ?_⟩
    refine ⟨ρ, _, hr.mono e1, o1, w1, fun ds vs H2 w2 r2 e2 o2 => ?_⟩
    exact f (d :: ds) (v :: vs) H2 w2 (.cons (r1.mono e2) r2) (e1.trans e2) o2
def vTup (t : TDA) : TDE := fun ρ q => t ρ fun ds => ds.length ≤ sizeLine ∧ q (.tup ds)
def vLst (t : TDA) : TDE := fun ρ q => t ρ fun ds => ds.length ≤ sizeLine ∧ q (.lst ds)
theorem new_tup {K : PySem.W.Frag} {H : Hp} {xs : List V} {ds : List D} {a : Addr} (r : RepAll K p.av H xs ds) (n : H a = none) (ho : Pot p H) : Rep K p.av (upd H a (.tup xs)) (.ref a) (.tup ds) :=
  .tup (.inl ⟨.inl upd_same, ho.nin n⟩) (r.mono (Ext.new n))
theorem new_lst {K : PySem.W.Frag} {H : Hp} {xs : List V} {ds : List D} {a : Addr} (r : RepAll K p.av H xs ds) (n : H a = none) (hs : a ≠ sysModules) (ho : Pot p H) : Rep K p.av (upd H a (.lst xs)) (.ref a) (.lst ds) :=
  .lst upd_same (ho.nin n) hs (r.mono (Ext.new n))
theorem new_seq {K : PySem.W.Frag} {H : Hp} {xs : List V} {ds : List D} {a : Addr} (r : RepAll K p.av H xs ds) (n : H a = none) (ho : Pot p H) : Rep K p.av (upd H a (.lst xs)) (.ref a) (.seq ds) :=
  .seq upd_same (ho.nin n) (r.mono (Ext.new n))
theorem d_tup {es : List Expr} {t : TDA} {x1} (h : EA X p es t) : EE X p (.Tuple es x1 pos) (vTup t) := PE_imp (pe_tup h) fun σ H Q ⟨ρ, q, hr, ho, w, f⟩ => by
  refine ⟨ρ, _, hr, ho, w, fun ds vs H1 ⟨wl, w1⟩ r1 e1 o1 => ⟨by rw [r1.length]; exact wl, fun a n => ?_⟩⟩
  exact f _ _ _ w1 (new_tup r1 n o1) (e1.trans (Ext.new n)) (o1.new n)
/-- a list of written items, not at the place of sys.modules -/
def tLst2 (t : TA) : TE := fun σ H Q => t σ H fun xs H1 => xs.length ≤ sizeLine ∧ ∀ a, H1 a = none → a ≠ sysModules → Q (.ref a) (upd H1 a (.lst xs))
theorem pe_lst2 {es : List Expr} {t : TA} (h : PA X es t) : PE X (.List es pos) (tLst2 t) := by
  refine ⟨fun pins s σ H Q I hq => ?_⟩
  refine wpAny_List_spliced (thn (h.run pos pins s σ H _ I hq) fun us s1 ⟨xs, H1, I1, r, z, q⟩ => ⟨by rw [← r.length]; exact z, ?_⟩)
  have hf : H1 s1.heap.objs.size = none := I1.hok.fresh (Nat.le_refl _)
  refine ⟨.ref s1.heap.objs.size, upd H1 s1.heap.objs.size (.lst xs), I1.laid (t' := s1.toks) (fun b u e => Heap.get?_push_of_some _ e) (Nat.le_refl _) ?_, rfl, q _ hf (Nat.ne_of_gt I1.big)⟩
  exact ⟨z, us, 0, r, Heap.get?_push_size _ rfl⟩
theorem d_lst {es : List Expr} {t : TDA} (h : EA X p es t) : EE X p (.List es pos) (vLst t) := PE_imp (pe_lst2 h) fun σ H Q ⟨ρ, q, hr, ho, w, f⟩ => by
  refine ⟨ρ, _, hr, ho, w, fun ds vs H1 ⟨wl, w1⟩ r1 e1 o1 => ⟨by rw [r1.length]; exact wl, fun a n hs => ?_⟩⟩
  exact f _ _ _ w1 (new_lst r1 n hs o1) (e1.trans (Ext.new n)) (o1.new n)
theorem d_emp : EE X p (.Dict [] [] pos) (vC .emp) := PE_imp pe_dnewK fun σ H Q ⟨ρ, q, hr, ho, w, f⟩ => fun a n =>
  f _ _ _ w (.emp upd_same (ho.nin n)) (Ext.new n) (ho.new n)
end
end Dl

set_option Elab.async false
set_option linter.all false
set_option maxRecDepth 100000
set_option maxHeartbeats 4000000
namespace Dl
open PySem PySem.Spec PyProof.Rows L2
/-! types as values: == and != -/
def knownTy : List String := ["NoneType", "bool", "int", "str", "tuple", "list", "dict"]
theorem ty_meta : ∀ {n : String}, n ∈ knownTy → ∀ s' : Shared, s'.TypeIs (.type n) "type" := fun {n} h s' => by
  have h' : n = "NoneType" ∨ n = "bool" ∨ n = "int" ∨ n = "str" ∨ n = "tuple" ∨ n = "list" ∨ n = "dict" := by simpa [knownTy] using h
  rcases h' with rfl | rfl | rfl | rfl | rfl | rfl | rfl
  · exact PySem.TypeEq.meta_NoneType s'
  · exact PySem.TypeEq.meta_bool s'
  · exact PySem.TypeEq.meta_int s'
  · exact PySem.TypeEq.meta_str s'
  · exact PySem.TypeEq.meta_tuple s'
  · exact PySem.TypeEq.meta_list s'
  · exact PySem.TypeEq.meta_dict s'
theorem slot_type_ne : Slot "type" (cmpInfo .NotEq).2.1 "object.__ne__" :=
  .of (owner := "object") (n := "__ne__") (by rw [typeLookup_type, builtinLookup_eq_fast]; kernel_rfl) (by decide +kernel) (by decide +kernel) (by decide +kernel)
    (by first | exact .inl (by decide +kernel) | exact .inr (by decide +kernel)) (by rw [isSubtype_type]; kernel_rfl)
theorem slot_type_ne_refl : Slot "type" (cmpInfo .NotEq).2.2 "object.__ne__" :=
  .of (owner := "object") (n := "__ne__") (by rw [typeLookup_type, builtinLookup_eq_fast]; kernel_rfl) (by decide +kernel) (by decide +kernel) (by decide +kernel)
    (by first | exact .inl (by decide +kernel) | exact .inr (by decide +kernel)) (by rw [isSubtype_type]; kernel_rfl)
theorem slot_type_eqN : Slot "type" (Str.ofString "__eq__") "object.__eq__" := PySem.TypeEq.slot_type_eq
section
variable {prog : Program} {w : World} {A : Around} {E : Value → Shared → Prop} {s : Shared}
theorem call_ne_same {n : String} {Q : Value → Shared → Prop} {nm : Str} (hn : n ∈ knownTy) (sl : Slot "type" nm "object.__ne__") (h : Q (.bool false) s) : wpAny (model prog w) A (call (.builtin "object.__ne__") [.type n, .type n]) Q E s := by
  refine wpAny_call_entry sl (ty_meta hn s) PySem.F.cmpEntry_ne ?_ (PySem.F.cmpArgs_ne _ _)
  unfold Builtin.«object.__ne__»
  repeat (first
    | with_reducible refine wpAny_cRoomFor_byValue rfl ?_
    | (refine wpAny_bind (m := callSpecialIfBound? (.type n) (Str.ofString "__eq__") [.type n]) (wpAny_callSpecialIfBound?_slot (ty_meta hn s) slot_type_eqN
        (call_gives slot_type_eqN (ty_meta hn s) F.entry_object_eq (F.args_object_eq_2 _ _) (PySem.TypeEq.object_eq_same (a := .type n) (b := .type n) rfl (by simp)) ?_)))
    | (refine wpAny_bind (m := truthy (.bool _)) (wpAny_truthy_bool ?_))
    | wp_step)
  exact ⟨_, rfl, h⟩
theorem call_ne_other {a b : String} {Q : Value → Shared → Prop} {nm : Str} (hn : a ∈ knownTy) (ne : (Value.type a == Value.type b) = false) (sl : Slot "type" nm "object.__ne__") (h : Q .notImplemented s) : wpAny (model prog w) A (call (.builtin "object.__ne__") [.type a, .type b]) Q E s := by
  refine wpAny_call_entry sl (ty_meta hn s) PySem.F.cmpEntry_ne ?_ (PySem.F.cmpArgs_ne _ _)
  unfold Builtin.«object.__ne__»
  repeat (first
    | with_reducible refine wpAny_cRoomFor_byValue rfl ?_
    | (refine wpAny_bind (m := callSpecialIfBound? (.type a) (Str.ofString "__eq__") [.type b]) (wpAny_callSpecialIfBound?_slot (ty_meta hn s) slot_type_eqN
        (call_gives slot_type_eqN (ty_meta hn s) F.entry_object_eq (F.args_object_eq_2 _ _) (PySem.TypeEq.object_eq_other (a := .type a) (b := .type b) rfl ne) ?_)))
    | wp_step)
  exact wpAny_pure ⟨_, rfl, h⟩
theorem ne_type_same {n : String} {Q : Value → Shared → Prop} (hn : n ∈ knownTy) (h : Q (.bool false) s) : wpAny (model prog w) A (compareOp .NotEq (.type n) (.type n)) Q E s := by
  show wpAny _ A (richCompare .NotEq _ _) Q E s
  exact wpAny_richCompare_same (T := "type") (ty_meta hn s) (ty_meta hn s) slot_type_ne (call_ne_same hn slot_type_ne ⟨(by intro e; cases e), h⟩)
theorem ne_type_other {a b : String} {Q : Value → Shared → Prop} (ha : a ∈ knownTy) (hb : b ∈ knownTy) (ne : a ≠ b) (h : Q (.bool true) s) : wpAny (model prog w) A (compareOp .NotEq (.type a) (.type b)) Q E s := by
  have n1 : (Value.type a == Value.type b) = false := beq_eq_false_iff_ne.mpr fun z => ne (Value.type.inj z)
  have n2 : (Value.type b == Value.type a) = false := beq_eq_false_iff_ne.mpr fun z => ne (Value.type.inj z).symm
  show wpAny _ A (richCompare .NotEq _ _) Q E s
  have h1 := slot_type_ne
  have h2 := slot_type_ne_refl
  rcases hi : cmpInfo CmpOp.NotEq with ⟨sym, f, r⟩
  rw [hi] at h1 h2
  simp only [richCompare, hi, (ty_meta ha s).oneThing_none]
  try with_reducible refine wpAny_holding ?_
  refine wpAny_bind (wpAny_cRoomFor_or (.inl rfl) ?_)
  refine wpAny_bind (wpAny_typeOf (ty_meta ha s) (wpAny_bind (wpAny_typeOf (ty_meta hb s) ?_)))
  simp only [bne_self_eq_false, Bool.false_eq_true, if_false, pure_bind, Bool.not_false, if_true]
  refine wpAny_bind (m := tryCompare (Value.type a) _ (Value.type b)) (wpAny_tryCompare_declines (ty_meta ha s) h1 (call_ne_other ha n1 h1 ⟨rfl, ?_⟩))
  refine wpAny_bind (m := tryCompare (Value.type b) _ (Value.type a)) (wpAny_tryCompare_declines (ty_meta hb s) h2 (call_ne_other hb n2 h2 ⟨rfl, ?_⟩))
  refine wpAny_bind (wpAny_rule (wpAny_bind (wpAny_of_eq (isSame_plain rfl) (wpAny_pure ?_))))
  rw [n1]
  exact h
end
end Dl

set_option Elab.async false
set_option linter.all false
set_option maxRecDepth 100000
set_option maxHeartbeats 4000000
namespace Dl
open PySem PySem.Spec PyProof.Rows L2

/-! ## operators -/
section
variable {X : Cx} {p : Res}
theorem OpR_or {f : Value → Value → Sem Value} {r r' : R2} (h : OpR X f r) (h' : OpR X f r') : OpR X f (fun x y H Q => r x y H Q ∨ r' x y H Q) := by
  intro pins s σ H x y v u Q I rx ry w
  rcases w with w | w
  · exact h pins s σ H x y v u Q I rx ry w
  · exact h' pins s σ H x y v u Q I rx ry w
def b2z (b : Bool) : Int := if b = true then 1 else 0
/-- + -/
def addD : DOp
  | .int i, .int j, q => q (.int (i + j))
  | .bl b, .int j, q => q (.int (b2z b + j))
  | .str x, .str y, q => x.length + y.length ≤ sizeLine ∧ q (.str (x ++ y))
  | .tup xs, .tup ys, q => xs.length + ys.length ≤ sizeLine ∧ q (.tup (xs ++ ys))
  | .lst xs, .lst ys, q => xs.length + ys.length ≤ sizeLine ∧ q (.seq (xs ++ ys))
  | _, _, _ => False
def rBI (g : Int → Int → Int) : R2 := fun x y H Q => ∃ b j, x = .bl b ∧ y = .int j ∧ Q (.int (g (b2z b) j)) H
theorem op_addBI : OpR X (binaryOp .Add) (rBI fun i j => i + j) := by
  intro pins s σ H x y v u Q I rx ry ⟨b, j, e1, e2, q⟩
  subst e1 e2
  cases rx
  obtain ⟨t, rfl⟩ := ry
  exact PySem.IntBool.add_bool_int ⟨.int _, H, I.tok _, ⟨_, rfl⟩, q⟩
theorem op_subBI : OpR X (binaryOp .Sub) (rBI fun i j => i - j) := by
  intro pins s σ H x y v u Q I rx ry ⟨b, j, e1, e2, q⟩
  subst e1 e2
  cases rx
  obtain ⟨t, rfl⟩ := ry
  exact PySem.IntBool.sub_bool_int ⟨.int _, H, I.tok _, ⟨_, rfl⟩, q⟩
theorem op_subIB : OpR X (binaryOp .Sub) (fun x y H Q => ∃ i b, x = .int i ∧ y = .bl b ∧ Q (.int (i - b2z b)) H) := by
  intro pins s σ H x y v u Q I rx ry ⟨i, b, e1, e2, q⟩
  subst e1 e2
  cases ry
  obtain ⟨t, rfl⟩ := rx
  exact PySem.IntBool.sub_int_bool ⟨.int _, H, I.tok _, ⟨_, rfl⟩, q⟩
theorem opr_add : OpR X (binaryOp .Add) (fun x y H Q => rI0 (fun i j => .int (i + j)) x y H Q ∨ rBI (fun i j => i + j) x y H Q ∨ (∃ i j, x = .str i ∧ y = .str j ∧ i.length + j.length ≤ sizeLine ∧ Q (.str (i ++ j)) H) ∨ rCatA X.K x y H Q ∨ rCat x y H Q) :=
  OpR_or op_add (OpR_or op_addBI (OpR_or op_add_str (OpR_or op_catA op_cat)))
theorem opd_add : OpD X.K p (fun x y H Q => rI0 (fun i j => .int (i + j)) x y H Q ∨ rBI (fun i j => i + j) x y H Q ∨ (∃ i j, x = .str i ∧ y = .str j ∧ i.length + j.length ≤ sizeLine ∧ Q (.str (i ++ j)) H) ∨ rCatA X.K x y H Q ∨ rCat x y H Q) addD := by
  intro x y dx dy H q Q rx ry o w f
  unfold addD at w
  split at w
  · cases rx; cases ry
    exact .inl ⟨_, _, rfl, rfl, f _ _ H w (.int _) (Ext.refl _ _) o⟩
  · cases rx; cases ry
    exact .inr (.inl ⟨_, _, rfl, rfl, f _ _ H w (.int _) (Ext.refl _ _) o⟩)
  · cases rx; cases ry
    exact .inr (.inr (.inl ⟨_, _, rfl, rfl, w.1, f _ _ H w.2 (.str _) (Ext.refl _ _) o⟩))
  · rename_i xs ys
    cases rx with
    | tup hx ax =>
      cases ry with
      | tup hy ay =>
        refine .inr (.inr (.inr (.inl ⟨_, _, _, _, rfl, rfl, hx.sq, hy.sq, by rw [ax.length, ay.length]; exact w.1, fun e => ?_, fun _ e => ?_, fun _ _ a n => ?_⟩)))
        · have e' := ax.nil_iff.mp e
          subst e'
          exact f _ _ H w.2 (.tup hy ay) (Ext.refl _ _) o
        · have e' := ay.nil_iff.mp e
          subst e'
          rw [List.append_nil] at w
          exact f _ _ H w.2 (.tup hx ax) (Ext.refl _ _) o
        · exact f _ _ _ w.2 (new_tup (ax.append ay) n o) (Ext.new n) (o.new n)
  · cases rx with
    | lst hx n1 z1 ax =>
      cases ry with
      | lst hy n2 z2 ay =>
        exact .inr (.inr (.inr (.inr ⟨_, _, _, _, rfl, rfl, hx, hy, by rw [ax.length, ay.length]; exact w.1, fun a n => f _ _ _ w.2 (new_seq (ax.append ay) n o) (Ext.new n) (o.new n)⟩)))
  · exact w.elim
/-- -, *, //, %, ** -/
def subD : DOp
  | .int i, .int j, q => q (.int (i - j))
  | .bl b, .int j, q => q (.int (b2z b - j))
  | .int i, .bl b, q => q (.int (i - b2z b))
  | _, _, _ => False
theorem opr_sub : OpR X (binaryOp .Sub) (fun x y H Q => rI0 (fun i j => .int (i - j)) x y H Q ∨ rBI (fun i j => i - j) x y H Q ∨ (∃ i b, x = .int i ∧ y = .bl b ∧ Q (.int (i - b2z b)) H)) := OpR_or op_sub (OpR_or op_subBI op_subIB)
theorem opd_sub {K} : OpD K p (fun x y H Q => rI0 (fun i j => .int (i - j)) x y H Q ∨ rBI (fun i j => i - j) x y H Q ∨ (∃ i b, x = .int i ∧ y = .bl b ∧ Q (.int (i - b2z b)) H)) subD := by
  intro x y dx dy H q Q rx ry o w f
  unfold subD at w
  split at w
  · cases rx; cases ry
    exact .inl ⟨_, _, rfl, rfl, f _ _ H w (.int _) (Ext.refl _ _) o⟩
  · cases rx; cases ry
    exact .inr (.inl ⟨_, _, rfl, rfl, f _ _ H w (.int _) (Ext.refl _ _) o⟩)
  · cases rx; cases ry
    exact .inr (.inr ⟨_, _, rfl, rfl, f _ _ H w (.int _) (Ext.refl _ _) o⟩)
  · exact w.elim
/-- ints under a condition -/
def intD (C : Int → Int → Prop) (g : Int → Int → D) : DOp := fun dx dy q => ∃ i j, dx = .int i ∧ dy = .int j ∧ C i j ∧ q (g i j)
theorem opd_int {K} {C : Int → Int → Prop} {g : Int → Int → Int} : OpD K p (rI C fun i j => .int (g i j)) (intD C fun i j => .int (g i j)) := by
  rintro x y dx dy H q Q rx ry o ⟨i, j, rfl, rfl, c, w⟩ f
  cases rx; cases ry
  exact ⟨i, j, rfl, rfl, c, f _ _ H w (.int _) (Ext.refl _ _) o⟩
theorem opd_cmpI {K} {g : Int → Int → Bool} : OpD K p (rI0 fun i j => .bl (g i j)) (intD (fun _ _ => True) fun i j => .bl (g i j)) := by
  rintro x y dx dy H q Q rx ry o ⟨i, j, rfl, rfl, _, w⟩ f
  cases rx; cases ry
  exact ⟨i, j, rfl, rfl, f _ _ H w (.bl _) (Ext.refl _ _) o⟩

/-! ### == and != -/
/-- the answer of == where the layer has one: scalars, types, a tuple against the empty one -/
def eqD : D → D → Option Bool
  | .non, .non => some true | .non, .int _ => some false | .int _, .non => some false | .non, .bl _ => some false | .bl _, .non => some false | .non, .str _ => some false | .str _, .non => some false
  | .int i, .int j => some (i == j) | .bl a, .bl b => some (a == b) | .str x, .str y => some (x == y)
  | .int _, .str _ => some false | .str _, .int _ => some false | .bl _, .str _ => some false | .str _, .bl _ => some false
  | .bl a, .int j => some (b2z a == j)
  | .tup xs, .tup [] => some xs.isEmpty
  | .ty a, .ty b => if a ∈ knownTy ∧ b ∈ knownTy then some (decide (a = b)) else none
  | _, _ => none
def rEqT : R2 := fun x y H Q => ∃ a b, x = .ty a ∧ y = .ty b ∧ a ∈ knownTy ∧ b ∈ knownTy ∧ Q (.bl (decide (a = b))) H
theorem op_eqT : OpR X (compareOp .Eq) rEqT := by
  intro pins s σ H x y v u Q I rx ry ⟨a, b, e1, e2, ka, kb, q⟩
  subst e1 e2
  cases rx; cases ry
  by_cases e : a = b
  · subst e
    exact PySem.TypeEq.eq_type_same (ty_meta ka) (fin_bl I q (by simp))
  · exact PySem.TypeEq.eq_type_other (ty_meta ka) (ty_meta kb) (beq_eq_false_iff_ne.mpr fun z => e (Value.type.inj z)) (fin_bl I q (by simp [e]))
def rNeT : R2 := fun x y H Q => ∃ a b, x = .ty a ∧ y = .ty b ∧ a ∈ knownTy ∧ b ∈ knownTy ∧ Q (.bl (!decide (a = b))) H
theorem op_neT : OpR X (compareOp .NotEq) rNeT := by
  intro pins s σ H x y v u Q I rx ry ⟨a, b, e1, e2, ka, kb, q⟩
  subst e1 e2
  cases rx; cases ry
  by_cases e : a = b
  · subst e
    exact ne_type_same ka (fin_bl I q (by simp))
  · exact ne_type_other ka kb e (fin_bl I q (by simp [e]))
def rEqBI : R2 := fun x y H Q => ∃ b j, x = .bl b ∧ y = .int j ∧ Q (.bl (b2z b == j)) H
theorem op_eqBI : OpR X (compareOp .Eq) rEqBI := by
  intro pins s σ H x y v u Q I rx ry ⟨b, j, e1, e2, q⟩
  subst e1 e2
  cases rx
  obtain ⟨t, rfl⟩ := ry
  exact PySem.EqBoolInt.eq_bool_int (fin_bl I q (by unfold b2z; cases b <;> rfl))
/-- t == () -/
def rEqT0 (K : PySem.W.Frag) : R2 := fun x y H Q => ∃ a b xs, x = .ref a ∧ y = .ref b ∧ SqT K H a xs ∧ SqT K H b [] ∧ Q (.bl xs.isEmpty) H
theorem op_eqT0 (hu : X.A.units < cLine) : OpR X (compareOp .Eq) (rEqT0 X.K) := by
  intro pins s σ H x y v u Q I rx ry ⟨a, b, xs, e1, e2, h1, h2, q⟩
  subst e1 e2
  cases rx; cases ry
  obtain ⟨its, r1, p1, _⟩ := I.tuple h1
  obtain ⟨its2, r2, p2, _⟩ := I.tuple h2
  cases r2
  refine PySem.SeqAt.eq_tupleAt (e := fun _ => true) p1 p2 hu (fun j _ h => absurd h (by simp)) (fin_bl I q ?_)
  cases r1 with
  | nil => rfl
  | cons a b => simp
/-- == -/
def rEqAll (K : PySem.W.Frag) : R2 := fun x y H Q => rEq x y H Q ∨ rEqBI x y H Q ∨ rEqT x y H Q ∨ rEqT0 K x y H Q
theorem opr_eq (hu : X.A.units < cLine) : OpR X (compareOp .Eq) (rEqAll X.K) := OpR_or op_eq (OpR_or op_eqBI (OpR_or op_eqT (op_eqT0 hu)))
def eqDD : DOp := fun dx dy q => ∃ b, eqD dx dy = some b ∧ q (.bl b)
theorem opd_eq {K} : OpD K p (rEqAll K) eqDD := by
  rintro x y dx dy H q Q rx ry o ⟨b, e, w⟩ f
  have fin := f _ _ H w (.bl b) (Ext.refl _ _) o
  unfold eqD at e
  split at e <;> first
    | (cases rx; cases ry; cases e; exact .inl ⟨rfl, fin⟩)
    | (cases rx; cases ry; cases e; exact .inl ⟨rfl, by rw [dec_int]; exact fin⟩)
    | (cases rx; cases ry; cases e; exact .inl ⟨rfl, by rw [dec_bl]; exact fin⟩)
    | (cases rx; cases ry; cases e; exact .inl ⟨rfl, by rw [dec_str]; exact fin⟩)
    | (cases rx; cases ry; cases e; exact .inr (.inl ⟨_, _, rfl, rfl, fin⟩))
    | (cases rx; cases ry; split at e <;> first | (cases e; done) | (rename_i hk; cases e; exact .inr (.inr (.inl ⟨_, _, rfl, rfl, hk.1, hk.2, fin⟩))))
    | (cases e; done)
    | (cases e
       cases rx with
       | tup hx ax =>
         cases ry with
         | tup hy ay =>
           cases ay
           refine .inr (.inr (.inr ⟨_, _, _, rfl, rfl, hx.sq, hy.sq, ?_⟩))
           cases ax <;> exact fin)
/-- != of scalars, of types -/
def neD : D → D → Option Bool
  | .non, .non => some false | .non, .int _ => some true | .int _, .non => some true | .non, .bl _ => some true | .bl _, .non => some true | .non, .str _ => some true | .str _, .non => some true
  | .int i, .int j => some (!(i == j)) | .bl a, .bl b => some (!(a == b)) | .str x, .str y => some (!(x == y))
  | .int _, .str _ => some true | .str _, .int _ => some true | .bl _, .str _ => some true | .str _, .bl _ => some true
  | .ty a, .ty b => if a ∈ knownTy ∧ b ∈ knownTy then some (!decide (a = b)) else none
  | _, _ => none
def neDD : DOp := fun dx dy q => ∃ b, neD dx dy = some b ∧ q (.bl b)
def rNeAll : R2 := fun x y H Q => rNe x y H Q ∨ rNeT x y H Q
theorem opr_ne : OpR X (compareOp .NotEq) rNeAll := OpR_or op_ne op_neT
theorem opd_ne {K} : OpD K p rNeAll neDD := by
  rintro x y dx dy H q Q rx ry o ⟨b, e, w⟩ f
  have fin := f _ _ H w (.bl b) (Ext.refl _ _) o
  unfold neD at e
  split at e <;> first
    | (cases rx; cases ry; cases e; exact .inl ⟨rfl, fin⟩)
    | (cases rx; cases ry; cases e; exact .inl ⟨rfl, by rw [dec_int]; exact fin⟩)
    | (cases rx; cases ry; cases e; exact .inl ⟨rfl, by rw [dec_bl]; exact fin⟩)
    | (cases rx; cases ry; cases e; exact .inl ⟨rfl, by rw [dec_str]; exact fin⟩)
    | (cases rx; cases ry; split at e <;> first | (cases e; done) | (rename_i hk; cases e; exact .inr ⟨_, _, rfl, rfl, hk.1, hk.2, fin⟩))
    | (cases e; done)
end
end Dl

set_option Elab.async false
set_option linter.all false
set_option maxRecDepth 100000
set_option maxHeartbeats 4000000
namespace Dl
open PySem PySem.Spec PyProof.Rows L2

/-! ## in -/
def flatD : D → Bool
  | .non => true | .bl _ => true | .int _ => true | .str _ => true | _ => false
def dvOf : D → V
  | .non => .non | .bl b => .bl b | .int i => .int i | .str x => .str x | _ => .non
theorem flat_eq {K p H x d} (r : Rep K p H x d) (h : flatD d = true) : x = dvOf d ∧ flatV x = true := by
  cases r <;> first | exact ⟨rfl, rfl⟩ | cases h
theorem flat_all {K p H} : ∀ {xs : List V} {ds : List D}, RepAll K p H xs ds → ds.all flatD = true → xs = ds.map dvOf ∧ xs.all flatV = true
  | _, _, .nil, _ => ⟨rfl, rfl⟩
  | _, _, .cons r t, h => by
    rw [List.all_cons, Bool.and_eq_true] at h
    obtain ⟨e1, f1⟩ := flat_eq r h.1
    obtain ⟨e2, f2⟩ := flat_all t h.2
    subst e1 e2
    exact ⟨rfl, by rw [List.all_cons, f1, f2]; rfl⟩
/-- the items of a tuple or a list -/
def itemsD : D → Option (List D)
  | .tup ds => some ds | .lst ds => some ds | .seq ds => some ds | _ => none
theorem items_sq {K p H x d ds} (r : Rep K p H x d) (h : itemsD d = some ds) : ∃ a xs, x = .ref a ∧ (SqL K H a xs ∨ SqT K H a xs) ∧ RepAll K p H xs ds := by
  cases r with
  | tup h1 h2 => cases h; exact ⟨_, _, rfl, .inr h1.sq, h2⟩
  | lst h1 h2 h3 h4 => cases h; exact ⟨_, _, rfl, .inl (.of h1), h4⟩
  | seq h1 h2 h4 => cases h; exact ⟨_, _, rfl, .inl (.of h1), h4⟩
  | _ => cases h
/-- x in t, of flat things -/
def inD (neg : Bool) : DOp := fun dx dy q => ∃ ds, itemsD dy = some ds ∧ flatD dx = true ∧ ds.all flatD = true ∧ q (.bl (if neg then !inV (dvOf dx) (ds.map dvOf) else inV (dvOf dx) (ds.map dvOf)))
section
variable {X : Cx} {p : Res}
theorem opd_in {K} {neg : Bool} : OpD K p (rIn K neg) (inD neg) := by
  rintro x y dx dy H q Q rx ry o ⟨ds, e, f1, f2, w⟩ f
  obtain ⟨a, xs, rfl, sq, ra⟩ := items_sq ry e
  obtain ⟨rfl, g1⟩ := flat_eq rx f1
  obtain ⟨rfl, g2⟩ := flat_all ra f2
  exact ⟨a, _, rfl, sq, g1, g2, f _ _ H w (.bl _) (Ext.refl _ _) o⟩
/-- a sign in a text -/
def inS (neg : Bool) : DOp := fun dx dy q => ∃ (c : Nat) (z : Str), dx = .str ⟨#[c]⟩ ∧ dy = .str z ∧ q (.bl (if neg then !decide (c ∈ z.cps.toList) else decide (c ∈ z.cps.toList)))
theorem opd_inS {K} : OpD K p (fun x y H Q => ∃ (c : Nat) (z : Str), x = .str ⟨#[c]⟩ ∧ y = .str z ∧ Q (.bl (decide (c ∈ z.cps.toList))) H) (inS false) := by
  rintro x y dx dy H q Q rx ry o ⟨c, z, rfl, rfl, w⟩ f
  cases rx; cases ry
  exact ⟨c, z, rfl, rfl, f _ _ H w (.bl _) (Ext.refl _ _) o⟩

/-! ## subscripts, slices -/
variable {a b : Expr} {pos : Pos} {ta tb : TDE}
def ixD : DOp := fun dx dy q => ∃ i, dy = .int i ∧ ((∃ ds d, itemsD dx = some ds ∧ atI ds i = some d ∧ q d) ∨ ∃ z c, dx = .str z ∧ z.length ≤ sizeLine ∧ atI z.cps.toList i = some c ∧ q (.str ⟨#[c]⟩))
theorem RepAll.atI {K p H xs ds i d} (r : RepAll K p H xs ds) (h : atI ds i = some d) : ∃ x, L2.atI xs i = some x ∧ Rep K p H x d := by
  unfold L2.atI at h ⊢
  rw [r.length]
  cases e : ixN ds.length i with
  | none => rw [e] at h; cases h
  | some j => rw [e] at h; exact r.get h
theorem opd_ix : OpD X.K p (rIx X.K) ixD := by
  rintro x y dx dy H q Q rx ry o ⟨i, rfl, w⟩ f
  cases ry
  rcases w with ⟨ds, d, e, ha, w⟩ | ⟨z, c, rfl, hz, hc, w⟩
  · obtain ⟨a, xs, rfl, sq, ra⟩ := items_sq rx e
    obtain ⟨v, hv, rv⟩ := ra.atI ha
    rcases sq with sq | sq
    · exact .inl ⟨a, xs, i, v, rfl, rfl, sq, hv, f _ _ H w rv (Ext.refl _ _) o⟩
    · exact .inr (.inl ⟨a, xs, i, v, rfl, rfl, sq, hv, f _ _ H w rv (Ext.refl _ _) o⟩)
  · cases rx
    exact .inr (.inr ⟨z, i, c, rfl, rfl, hz, hc, f _ _ H w (.str _) (Ext.refl _ _) o⟩)
theorem d_ix (ha : EE X p a ta) (hb : EE X p b tb) (hs : PlainIx b := by intro _ _; rfl) : EE X p (.Subscript a b pos) (vOp ixD ta tb) := PE_imp (pe_ix ix_seq ha hb hs) (tOp_of opd_ix)

abbrev TDO := DE → (Option Int → Prop) → Prop
def tDO (K : PySem.W.Frag) (p : Res) (t : TDO) : TO := fun σ H Q => ∃ ρ q, REnv K p.av H σ ρ ∧ Pot p H ∧ t ρ q ∧ ∀ o H', q o → Ext p.p H H' → Pot p H' → Q o H'
def vNoPart : TDO := fun _ q => q none
def vPart (t : TDE) : TDO := fun ρ q => t ρ fun d => ∃ i, d = .int i ∧ q (some i)
theorem o_none : PO X none (tDO X.K p vNoPart) := ⟨fun pins s σ H Q I ⟨ρ, q, hr, ho, w, f⟩ => po_none.run pins s σ H Q I (f none H w (Ext.refl _ _) ho)⟩
theorem o_some {e : Expr} {t : TDE} (h : EE X p e t) : PO X (some e) (tDO X.K p (vPart t)) := ⟨fun pins s σ H Q I ⟨ρ, q, hr, ho, w, f⟩ => (po_some h).run pins s σ H Q I ⟨ρ, _, hr, ho, w, by
  rintro d v H' ⟨i, rfl, w1⟩ r e o
  cases r
  exact ⟨i, rfl, f _ H' w1 e o⟩⟩⟩
def cutD (xs : List D) (lo hi : Option Int) : List D := (xs.drop (HT.sIx xs.length 0 lo)).take (HT.sIx xs.length xs.length hi - HT.sIx xs.length 0 lo)
theorem RepAll.cut {K p H xs ds} (r : RepAll K p H xs ds) (lo hi : Option Int) : RepAll K p H (cutV xs lo hi) (cutD ds lo hi) := by
  unfold cutV cutD
  rw [r.length]
  exact (r.drop _).take _
/-- x[lo:hi] -/
def sliceD (dx : D) (lo hi : Option Int) (q : D → Prop) : Prop := match dx with
  | .tup ds => q (.tup (cutD ds lo hi))
  | .lst ds => q (.seq (cutD ds lo hi))
  | .str z => z.length ≤ sizeLine ∧ q (.str (cutS z lo hi))
  | _ => False
def vSl (t : TDE) (tl th : TDO) : TDE := fun ρ q => t ρ fun dx => tl ρ fun lo => th ρ fun hi => sliceD dx lo hi q
def rSlAny (K : PySem.W.Frag) : V → Option Int → Option Int → Hp → VK → Prop := fun x lo hi H Q => rSlA K x lo hi H Q ∨ rSlL K x lo hi H Q ∨ rSlS x lo hi H Q
theorem slr_any : SlR X (rSlAny X.K) := SlR.or sl_tupA (SlR.or sl_list sl_str)
theorem slice_ok {K x dx lo hi H} {q : D → Prop} {Q : VK} (rx : Rep K p.av H x dx) (o : Pot p H) (w : sliceD dx lo hi q) (f : Fin K p H q Q) : rSlAny K x lo hi H Q := by
  unfold sliceD at w
  split at w
  · rename_i ds
    cases rx with
    | tup h ra =>
      refine .inl ⟨_, _, rfl, h.sq, fun e => ?_, fun _ a n => ?_⟩
      · refine f _ _ H w ?_ (Ext.refl _ _) o
        have e2 : cutD ds lo hi = ds := by
          unfold cutD
          rw [ra.length] at e
          rw [e.1, e.2]
          simp
        rw [e2]
        exact .tup h ra
      · exact f _ _ _ w (new_tup (ra.cut lo hi) n o) (Ext.new n) (o.new n)
  · cases rx with
    | lst h n1 z1 ra => exact .inr (.inl ⟨_, _, rfl, .of h, fun a n => f _ _ _ w (new_seq (ra.cut lo hi) n o) (Ext.new n) (o.new n)⟩)
  · cases rx
    exact .inr (.inr ⟨_, rfl, w.1, f _ _ H w.2 (.str _) (Ext.refl _ _) o⟩)
  · exact w.elim
theorem d_slice {e : Expr} {lo hi : Option Expr} {t : TDE} {tl th : TDO} {p2 : Pos} (he : EE X p e t) (hl : PO X lo (tDO X.K p tl)) (hu : PO X hi (tDO X.K p th)) : EE X p (.Subscript e (.Slice lo hi none p2) pos) (vSl t tl th) :=
  PE_imp (pe_slice slr_any he hl hu) fun σ H Q ⟨ρ, q, hr, ho, w, f⟩ => by
    refine ⟨ρ, _, hr, ho, w, fun dx x H1 w1 r1 e1 o1 => ?_⟩
    refine ⟨ρ, _, hr.mono e1, o1, w1, fun l H2 w2 e2 o2 => ?_⟩
    refine ⟨ρ, _, hr.mono (e1.trans e2), o2, w2, fun u H3 w3 e3 o3 => ?_⟩
    exact slice_ok ((r1.mono e2).mono e3) o3 w3 (f.step ((e1.trans e2).trans e3))

/-! ### t[::-1] -/
section
variable {prog : Program} {w : World} {A : Around} {E : Value → Shared → Prop} {s : Shared}
theorem filterMap_congr' {α β : Type} {f g : α → Option β} : ∀ {l : List α}, (∀ m ∈ l, f m = g m) → l.filterMap f = l.filterMap g
  | [], _ => rfl
  | a :: l, h => by
    rw [List.filterMap_cons, List.filterMap_cons, h a List.mem_cons_self, filterMap_congr' fun m hm => h m (List.mem_cons_of_mem _ hm)]
theorem adjust_back (n : Nat) : Builtin.Slice.sliceAdjust none none (-1) (n : Int) = ((n : Int) - 1, -1) := by
  unfold Builtin.Slice.sliceAdjust
  simp
theorem places_back (n : Nat) : Builtin.Slice.slicePlaces ((n : Int) - 1) (-1) (-1) = n := by
  unfold Builtin.Slice.slicePlaces
  simp
  omega
theorem pick_back (xs : Array Value) : ((List.range xs.size).filterMap fun (m : Nat) => xs[(((xs.size : Int) - 1) + (m : Int) * (-1)).toNat]?).toArray = xs.toList.reverse.toArray := by
  congr 1
  have h := PySem.W.krv_all xs
  have e : ((List.range xs.size).filterMap fun (m : Nat) => xs[(((xs.size : Int) - 1) + (m : Int) * (-1)).toNat]?) = ((List.range xs.size).map fun k => xs.size - 1 - k).filterMap (xs[·]?) := by
    rw [List.filterMap_map]
    apply filterMap_congr'
    intro m hm
    have hm' := List.mem_range.mp hm
    have : (((xs.size : Int) - 1) + (m : Int) * (-1)).toNat = xs.size - 1 - m := by omega
    rw [this]
    rfl
  rw [e, PySem.W.krv_range, List.filterMap_reverse, h]
theorem getItem_tuple_back {t sl : Addr} {items : Array Value} {vs : Value} {Q : Value → Shared → Prop} (ht : IsTup s.heap t items) (hs : s.heap.IsSliceOf sl .none .none vs) (ps : IsPart vs (some (-1)))
    (h : Q (.ref s.heap.objs.size) { s with heap := s.heap.push { cls := .type "tuple", data := .seq items.toList.reverse.toArray } })
    (hsz : items.size ≤ sizeLine) : wpAny (model prog w) A (getItem (.ref t) (.ref sl)) Q E s := by
  have htake : sizeOk (.seq items.toList.reverse.toArray) := by
    show items.toList.reverse.toArray.size ≤ sizeLine
    rw [List.size_toArray, List.length_reverse, Array.length_toList]
    exact hsz
  obtain ⟨os, hos, hcs, hds⟩ := id hs
  have hTs : s.TypeIs (.ref sl) "slice" := ⟨os, hos, hcs⟩
  unfold getItem
  try with_reducible refine wpAny_holding ?_
  first | refine wpAny_bind (wpAny_pure ?_) | skip
  refine wpAny_bind (wpAny_sequenceKey ht.typeIs (by decide) ?_)
  refine wpAny_bind (wpAny_callSpecial?_slot (name := Str.ofString "__getitem__") ht.typeIs PyProof.Rows.slot_tuple_getitem
    (wpAny_call_entry PyProof.Rows.slot_tuple_getitem ht.typeIs entry_tuple_getitem ?_ (args_tuple_getitem _ _)))
  show wpAny _ _ (Builtin.Tuple.tupleItemsOf (.ref t) >>= _) _ _ s
  refine wpAny_bind (tupleItemsOf_ ht ?_)
  refine wpAny_bind (wpAny_typeOf hTs ?_)
  rw [if_pos (by decide)]
  have happ : ∀ {Q' : Int × Int × Nat → Shared → Prop}, Q' ((items.size : Int) - 1, -1, items.size) s → wpAny (model prog w) A.in1 (Builtin.Slice.sliceApplied (.ref sl) (pure (items.size : Int))) Q' E s := by
    intro Q' hq
    unfold Builtin.Slice.sliceApplied Builtin.Slice.sliceFields
    refine wpAny_bind (wpAny_bind (wpAny_field hos hds (x := .none) rfl (wpAny_bind (wpAny_field hos hds (x := .none) rfl (wpAny_bind (wpAny_field hos hds (x := vs) rfl (wpAny_pure ?_)))))))
    refine wpAny_bind (HT.slicePart_ ps ?_)
    show wpAny _ _ (if ((-1 : Int) == 0) = true then _ else _) _ _ s
    rw [if_neg (by decide)]
    refine wpAny_bind (slicePart_none (wpAny_bind (slicePart_none (wpAny_bind (wpAny_pure ?_)))))
    show wpAny _ _ (match Builtin.Slice.sliceAdjust none none (-1) (items.size : Int) with | (lo, hi) => pure (lo, (-1 : Int), Builtin.Slice.slicePlaces lo hi (-1))) _ _ s
    rw [adjust_back]
    show wpAny _ _ (pure ((items.size : Int) - 1, (-1 : Int), Builtin.Slice.slicePlaces ((items.size : Int) - 1) (-1) (-1))) _ _ s
    rw [places_back]
    exact wpAny_pure hq
  refine wpAny_bind (happ ?_)
  have hno : ¬ (((items.size : Int) - 1 == 0 && (-1 : Int) == 1 && items.size == items.size) = true) := by
    intro q
    rw [Bool.and_eq_true, Bool.and_eq_true] at q
    exact absurd q.1.2 (by decide)
  show wpAny _ _ (if ((items.size : Int) - 1 == 0 && (-1 : Int) == 1 && items.size == items.size) = true then _ else _) _ _ s
  rw [if_neg hno, pick_back]
  first
    | exact wpAny_bind (m := Builtin.Tuple.tupleExact _) (wpAny_newObj_type (wpAny_pure ⟨_, rfl, wpAny_pure h⟩) htake)
    | exact wpAny_bind (m := Builtin.Tuple.tupleExact _) (wpAny_newObj_type (wpAny_bind (wpAny_pure (wpAny_pure ⟨_, rfl, wpAny_pure h⟩))) htake)
    | exact wpAny_bind (wpAny_bind (m := Builtin.Tuple.tupleExact _) (wpAny_newObj_type (wpAny_pure (wpAny_pure ⟨_, rfl, wpAny_pure h⟩)) htake))
    | exact wpAny_bind (wpAny_bind (m := Builtin.Tuple.tupleExact _) (wpAny_newObj_type (wpAny_pure ⟨_, rfl, wpAny_pure h⟩) htake))
end
def vRevT (t : TDE) : TDE := fun ρ q => t ρ fun d => ∃ ds, d = .tup ds ∧ q (.tup ds.reverse)
theorem d_revT {e : Expr} {t : TDE} {k : Nat} {p1 p2 p3 : Pos} (he : EE X p e t) : EE X p (.Subscript e (.Slice none none (some (.UnaryOp .USub (.Constant (.int 1) k p1) p2)) p3) pos) (vRevT t) := by
  refine ⟨fun pins s σ H Q I ⟨ρ, q, hr, ho, w, f⟩ => ?_⟩
  refine Subscript_ (thn (he.run pins s σ H _ I ⟨ρ, _, hr, ho, w, fun d v H' wd rd ed od => (show ∃ ds x, D.tup ds = D.tup ds ∧ v = x ∧ q (.tup ds.reverse) ∧ Rep X.K p.av H' x (.tup ds) ∧ Ext p.p H H' ∧ Pot p H' from by obtain ⟨ds, rfl, w2⟩ := wd; exact ⟨ds, v, rfl, rfl, w2, rd, ed, od⟩)⟩) fun v s1 ⟨x, H1, I1, r1, q1⟩ => ?_)
  obtain ⟨ds, _, _, rfl, w2, rd, ed, od⟩ := q1
  cases rd with
  | @tup ad xs _ hx ra =>
  cases r1
  have hst : PO X (some (.UnaryOp .USub (.Constant (.int 1) k p1) p2)) (tPart (tUn (rU fun i => .int (-i)) (tC (.int 1)))) := po_some (pe_un un_neg pe_int)
  refine wpAny_Slice (thn (po_none.run pins s1 σ H1 (fun o H2 => o = none ∧ H2 = H1) I1 ⟨rfl, rfl⟩) fun vl s2 ⟨l, H2, I2, pl, el, e2⟩ => ?_)
  subst el e2
  refine thn (po_none.run pins s2 σ H2 (fun o H3 => o = none ∧ H3 = H2) I2 ⟨rfl, rfl⟩) fun vu s3 ⟨u, H3, I3, pu, eu, e3⟩ => ?_
  subst eu e3
  refine thn (hst.run pins s3 σ H3 (fun o H4 => o = some (-1) ∧ H4 = H3) I3 ⟨1, rfl, -1, rfl, rfl, rfl⟩) fun vs s4 ⟨o, H4, I4, ps, eo, e4⟩ => ?_
  subst eo e4
  cases pl
  cases pu
  have I5 : Inv X pins σ H4 { s4 with heap := s4.heap.push { cls := .type "slice", data := .fields #[.none, .none, vs] } } := I4.kept (t' := s4.toks) fun b ob q => Heap.get?_push_of_some _ q
  obtain ⟨its, r, ht, hz⟩ := I5.tuple hx.sq
  have hlen := r.length
  show wpAny (model X.prog X.w) X.A (subscriptTail e (.Slice none none (some (.UnaryOp .USub (.Constant (.int 1) k p1) p2)) p3) (.ref ad) (.ref s4.heap.objs.size)) (EP X pins σ Q) X.xe { s4 with heap := s4.heap.push { cls := .type "slice", data := .fields #[.none, .none, vs] } }
  refine tail_any (ops := [.ref ad, .ref s4.heap.objs.size]) ht.typeIs PyProof.Rows.slot_tuple_getitem.lookup ?_ (by with_unfolding_all rfl)
  have hn : H4 (s4.heap.push { cls := .type "slice", data := .fields #[.none, .none, vs] }).objs.size = none := I5.hok.fresh (Nat.le_refl _)
  refine getItem_tuple_back ht (Heap.IsSliceOf.new _ .none .none vs) ps ?_ (by rw [List.size_toArray]; omega)
  refine ⟨.ref _, _, I5.laid (t' := s4.toks) (o := .tup xs.reverse) (fun b ob q => Heap.get?_push_of_some _ q) (Nat.le_refl _) ?_, rfl, f _ _ _ w2 (new_tup ra.reverse hn od) (ed.trans (Ext.new hn)) (od.new hn)⟩
  exact ⟨by rw [List.length_reverse]; exact hz, its.reverse, r.reverse, _, Heap.get?_push_size _ rfl, rfl, 0, by simp⟩
end
end Dl

set_option Elab.async false
set_option linter.all false
set_option maxRecDepth 100000
set_option maxHeartbeats 4000000
namespace Dl
open PySem PySem.Spec PyProof.Rows L2
/-! ## data that can be shown -/
mutual
def D.py : D → PyData
  | .non => .none | .bl b => .bool b | .int i => .int i | .str x => .str x | .tup xs => .tuple (D.pys xs) | .lst xs => .list (D.pys xs) | .emp => .dict []
  | .ptr _ => .none | .seq _ => .none | .ty _ => .none
def D.pys : List D → List PyData
  | [] => []
  | x :: xs => D.py x :: D.pys xs
end
mutual
/-- no objects but tuples, lists, empty dicts; ints and signs of a size that is shown in few signs -/
def D.plain : D → Bool
  | .non => true | .bl _ => true | .int i => decide (i.natAbs < 10 ^ 12) | .str x => x.cps.toList.all (fun c => decide (c < 128)) | .tup xs => D.plains xs | .lst xs => D.plains xs | .emp => true
  | .ptr _ => false | .seq _ => false | .ty _ => false
def D.plains : List D → Bool
  | [] => true
  | x :: xs => D.plain x && D.plains xs
end
mutual
/-- how much there is -/
def D.sz : D → Nat
  | .str x => x.length + 1
  | .tup xs => D.szs xs + 1
  | .lst xs => D.szs xs + 1
  | _ => 1
def D.szs : List D → Nat
  | [] => 0
  | x :: xs => D.sz x + 1 + D.szs xs
end
mutual
def D.dp : D → Nat
  | .tup xs => D.dps xs + 1
  | .lst xs => D.dps xs + 1
  | .emp => 1
  | _ => 0
def D.dps : List D → Nat
  | [] => 0
  | x :: xs => max (D.dp x) (D.dps xs)
end
mutual
theorem py_depth : ∀ d : D, d.plain = true → d.py.depth = d.dp
  | .non, _ => by simp only [D.py, PyData.depth, D.dp]
  | .bl _, _ => by simp only [D.py, PyData.depth, D.dp]
  | .int _, _ => by simp only [D.py, PyData.depth, D.dp]
  | .str _, _ => by simp only [D.py, PyData.depth, D.dp]
  | .emp, _ => by simp only [D.py, PyData.depth, PyData.depthKv, D.dp]
  | .tup xs, h => by simp only [D.py, PyData.depth, D.dp]; rw [pys_depth xs (by simpa only [D.plain] using h)]
  | .lst xs, h => by simp only [D.py, PyData.depth, D.dp]; rw [pys_depth xs (by simpa only [D.plain] using h)]
  | .ptr _, h => by simp only [D.plain] at h; cases h
  | .seq _, h => by simp only [D.plain] at h; cases h
  | .ty _, h => by simp only [D.plain] at h; cases h
theorem pys_depth : ∀ ds : List D, D.plains ds = true → PyData.depthAll (D.pys ds) = D.dps ds
  | [], _ => by simp only [D.pys, PyData.depthAll, D.dps]
  | d :: ds, h => by
    simp only [D.plains, Bool.and_eq_true] at h
    simp only [D.pys, PyData.depthAll, D.dps]
    rw [py_depth d h.1, pys_depth ds h.2]
end
mutual
theorem py_showable : ∀ d : D, d.plain = true → d.py.showable = true
  | .non, _ => by simp only [D.py, PyData.showable]
  | .bl _, _ => by simp only [D.py, PyData.showable]
  | .int i, h => by
    simp only [D.plain, decide_eq_true_eq] at h
    simp only [D.py, PyData.showable, decide_eq_true_eq]
    exact log2_small (Nat.lt_of_lt_of_le h (by decide))
  | .str _, _ => by simp only [D.py, PyData.showable]
  | .emp, _ => by simp only [D.py, PyData.showable, PyData.showableKv]
  | .tup xs, h => by simp only [D.py, PyData.showable]; exact pys_showable xs (by simpa only [D.plain] using h)
  | .lst xs, h => by simp only [D.py, PyData.showable]; exact pys_showable xs (by simpa only [D.plain] using h)
  | .ptr _, h => by simp only [D.plain] at h; cases h
  | .seq _, h => by simp only [D.plain] at h; cases h
  | .ty _, h => by simp only [D.plain] at h; cases h
theorem pys_showable : ∀ ds : List D, D.plains ds = true → PyData.showableAll (D.pys ds) = true
  | [], _ => by simp only [D.pys, PyData.showableAll]
  | d :: ds, h => by
    simp only [D.plains, Bool.and_eq_true] at h
    simp only [D.pys, PyData.showableAll, Bool.and_eq_true]
    exact ⟨py_showable d h.1, pys_showable ds h.2⟩
end
theorem repr_len (x : Str) (h : x.cps.toList.all (fun c => decide (c < 128)) = true) : (reprText x).length ≤ 10 * x.length + 4 :=
  Nat.le_trans (StrLaws.reprText_len x fun c hc => Nat.lt_of_lt_of_le (of_decide_eq_true (List.all_eq_true.mp h c hc)) (by decide)) (by omega)
mutual
theorem py_shown : ∀ d : D, d.plain = true → d.py.shown.length ≤ 14 * d.sz
  | .non, _ => by simp only [D.py, PyData.shown_none, D.sz]; decide +kernel
  | .bl b, _ => by simp only [D.py, PyData.shown_bool, D.sz]; cases b <;> decide +kernel
  | .int i, h => by
    simp only [D.plain, decide_eq_true_eq] at h
    have := PyData.shown_int_le h
    simp only [D.py, D.sz]
    omega
  | .str x, h => by
    simp only [D.plain] at h
    have := repr_len x h
    simp only [D.py, PyData.shown_str, D.sz]
    omega
  | .emp, _ => by simp only [D.py, D.sz]; decide +kernel
  | .tup xs, h => by
    have ih := pys_shown xs (by simpa only [D.plain] using h)
    have := tupleText_len_le (PyData.shownAll (D.pys xs))
    simp only [D.py, PyData.shown, D.sz]
    omega
  | .lst xs, h => by
    have ih := pys_shown xs (by simpa only [D.plain] using h)
    have := listText_len_le (PyData.shownAll (D.pys xs))
    simp only [D.py, PyData.shown, D.sz]
    omega
  | .ptr _, h => by simp only [D.plain] at h; cases h
  | .seq _, h => by simp only [D.plain] at h; cases h
  | .ty _, h => by simp only [D.plain] at h; cases h
theorem pys_shown : ∀ ds : List D, D.plains ds = true → ((PyData.shownAll (D.pys ds)).map (·.length)).sum + 2 * (PyData.shownAll (D.pys ds)).length ≤ 14 * D.szs ds
  | [], _ => by simp [D.pys, PyData.shownAll_nil, D.szs]
  | d :: ds, h => by
    simp only [D.plains, Bool.and_eq_true] at h
    have h1 := py_shown d h.1
    have h2 := pys_shown ds h.2
    simp only [D.pys, PyData.shownAll_cons, List.map_cons, List.sum_cons, List.length_cons, D.szs]
    omega
end
section
variable {X : Cx} {pins : List (Addr × Obj)} {σ : L2.St} {H : Hp} {s : Shared} {p : List Addr}
mutual
theorem Rep.reads (I : Inv X pins σ H s) : ∀ (d : D) (v : V) (u : Value), d.plain = true → Rep X.K p H v d → RelV v u → ∃ as, Reads s.heap u d.py as ∧ sysModules ∉ as
  | .non, _, _, _, h, r => by cases h; cases r; exact ⟨_, Reads.none, by simp⟩
  | .bl b, _, _, _, h, r => by cases h; cases r; exact ⟨_, Reads.bool b, by simp⟩
  | .int i, _, _, _, h, r => by cases h; obtain ⟨t, rfl⟩ := r; exact ⟨_, Reads.int i t, by simp⟩
  | .str x, _, _, _, h, r => by cases h; obtain ⟨t, rfl⟩ := r; exact ⟨_, Reads.str x t, by simp⟩
  | .tup ds, _, _, g, h, r => by
    simp only [D.plain] at g
    cases h with
    | tup hs ha =>
      cases r
      obtain ⟨its, rv, ⟨o, ho, hc, n, hd⟩, _⟩ := I.tuple hs.sq
      obtain ⟨as, hr, hn⟩ := Rep.readsAll I ds _ its g ha rv
      exact ⟨_, by simp only [D.py]; exact Reads.tuple ho hc hd hr, hn⟩
  | .lst ds, _, _, g, h, r => by
    simp only [D.plain] at g
    cases h with
    | lst hs hp hz ha =>
      cases r
      obtain ⟨its, rv, ⟨o, n, ho, hc, _, hd⟩, _⟩ := I.list (SqL.of (K := X.K) hs)
      obtain ⟨as, hr, hn⟩ := Rep.readsAll I ds _ its g ha rv
      refine ⟨_, by simp only [D.py]; exact Reads.list ho hc hd hr, ?_⟩
      simp only [List.mem_cons, not_or]
      exact ⟨fun e => hz e.symm, hn⟩
  | .emp, _, _, _, h, r => by
    cases h with
    | emp hs hp =>
      cases r
      obtain ⟨_, hS, vs, rk, o, es, ep, ho, hx, hd, _, he, _⟩ := dk_of I.hok hs
      cases rk
      have he' : es.toList = [] := by
        cases hq : es.toList with
        | nil => rfl
        | cons a b => rw [hq] at he; cases he
      refine ⟨_, by simp only [D.py]; exact Reads.dict (as := []) (bs := []) ho hx.1 hd (by rw [he']; exact .nil) (by rw [he']; exact .nil), ?_⟩
      have hS' := beq_eq_false_iff_ne.mp hS
      simp
      exact fun e => hS' e.symm
  | .ptr _, _, _, g, _, _ => by simp only [D.plain] at g; cases g
  | .seq _, _, _, g, _, _ => by simp only [D.plain] at g; cases g
  | .ty _, _, _, g, _, _ => by simp only [D.plain] at g; cases g
theorem Rep.readsAll (I : Inv X pins σ H s) : ∀ (ds : List D) (vs : List V) (us : List Value), D.plains ds = true → RepAll X.K p H vs ds → Vals vs us → ∃ as, ReadsAll s.heap us (D.pys ds) as ∧ sysModules ∉ as
  | [], _, _, _, h, r => by
    cases h
    cases r
    exact ⟨_, by simp only [D.pys]; exact ReadsAll.nil, by simp⟩
  | d :: ds, _, _, g, h, r => by
    simp only [D.plains, Bool.and_eq_true] at g
    cases h with
    | cons h1 h2 =>
      cases r with
      | cons r1 r2 =>
        obtain ⟨as, q1, n1⟩ := Rep.reads I d _ _ g.1 h1 r1
        obtain ⟨bs, q2, n2⟩ := Rep.readsAll I ds _ _ g.2 h2 r2
        exact ⟨_, by simp only [D.pys]; exact ReadsAll.cons q1 q2, by simp [n1, n2]⟩
end
end

/-! ## calls of built-ins -/
section
variable {X : Cx} {p : Res} {pos : Pos}
abbrev DCall := List D → (D → Prop) → Prop
def CallD (K : PySem.W.Frag) (p : Res) (r : List V → Hp → VK → Prop) (op : DCall) : Prop := ∀ xs ds H q Q, RepAll K p.av H xs ds → Pot p H → op ds q → Fin K p H q Q → r xs H Q
def vCall (op : DCall) (ta : TDA) : TDE := fun ρ q => ta ρ fun ds => op ds q
theorem d_callB {x : Str} {p0 : Pos} {e : Expr} {es : List Expr} {ta : TDA} {id : String} {r : List V → Hp → VK → Prop} {op : DCall} (h : CallD X.K p r op) (hc : CallR X (.builtin id) r) (hm : X.mg x = none) (hv : bootBuiltins x = some (.builtin id)) (ha : EA X p (e :: es) ta)
    (hg : Gl X x := by rfl) (hn : x ≠ "__name__" := by decide) (hdb : (x == ("__debug__" : Str)) = false := by decide)
    (he : starEach (e :: es) X.env = (false, eval e X.env) :: starEach es X.env := by rfl) (hpl : (backTo pos (starEach es X.env)).any (·.1) = false := by rfl) : EE X p (.Call (.Name x p0) (e :: es) [] pos) (vCall op ta) :=
  PE_imp (pe_callB hc hg hm hv ha hn hdb he hpl) fun σ H Q ⟨ρ, q, hr, ho, w, f⟩ => ⟨ρ, _, hr, ho, w, fun ds vs H1 w1 r1 e1 o1 => h vs ds H1 q Q r1 o1 w1 (f.step e1)⟩
theorem d_callTy {x : Str} {p0 : Pos} {e : Expr} {es : List Expr} {ta : TDA} {T : String} {r : List V → Hp → VK → Prop} {op : DCall} (h : CallD X.K p r op) (hc : CallR X (.type T) r) (hm : X.mg x = none) (hv : bootBuiltins x = some (.type T)) (ha : EA X p (e :: es) ta)
    (hg : Gl X x := by rfl) (hn : x ≠ "__name__" := by decide) (hdb : (x == ("__debug__" : Str)) = false := by decide)
    (he : starEach (e :: es) X.env = (false, eval e X.env) :: starEach es X.env := by rfl) (hpl : (backTo pos (starEach es X.env)).any (·.1) = false := by rfl) : EE X p (.Call (.Name x p0) (e :: es) [] pos) (vCall op ta) :=
  PE_imp (pe_callTy hc hg hm hv ha hn hdb he hpl) fun σ H Q ⟨ρ, q, hr, ho, w, f⟩ => ⟨ρ, _, hr, ho, w, fun ds vs H1 w1 r1 e1 o1 => h vs ds H1 q Q r1 o1 w1 (f.step e1)⟩
theorem RepAll.one {K p H xs d} (r : RepAll K p H xs [d]) : ∃ x, xs = [x] ∧ Rep K p H x d := by
  cases r with
  | cons r t => cases t; exact ⟨_, rfl, r⟩
theorem RepAll.two {K p H xs d e} (r : RepAll K p H xs [d, e]) : ∃ x y, xs = [x, y] ∧ Rep K p H x d ∧ Rep K p H y e := by
  cases r with
  | cons r t =>
    obtain ⟨y, rfl, r2⟩ := t.one
    exact ⟨_, _, rfl, r, r2⟩
/-- a built-in type, by its name -/
theorem d_ty {x : Str} {n : String} {p0 : Pos} (hm : X.mg x = none) (hv : bootBuiltins x = some (.type n)) (hg : Gl X x := by rfl) (hn : x ≠ "__name__" := by decide) (hd : (x == ("__debug__" : Str)) = false := by decide) : EE X p (.Name x p0) (vC (.ty n)) :=
  d_of_c (v := .ty n) (pe_bltn hg hm hv rfl hn hd) fun _ => .ty n
/-! ### len -/
def lenD : DCall := fun ds q => ∃ d, ds = [d] ∧ ((∃ xs, itemsD d = some xs ∧ q (.int xs.length)) ∨ ∃ z, d = .str z ∧ z.length ≤ sizeLine ∧ q (.int z.length))
theorem cd_len : CallD X.K p (fun xs H Q => ∃ x n, xs = [x] ∧ LenV X.K x H n ∧ Q (.int n) H) lenD := by
  rintro xs ds H q Q r o ⟨d, rfl, w⟩ f
  obtain ⟨x, rfl, rx⟩ := r.one
  rcases w with ⟨zs, e, w⟩ | ⟨z, rfl, hz, w⟩
  · obtain ⟨a, ys, rfl, sq, ra⟩ := items_sq rx e
    refine ⟨_, ys.length, rfl, ?_, ?_⟩
    · rcases sq with sq | sq
      · exact .inl ⟨ys, sq, rfl⟩
      · exact .inr ⟨ys, sq, rfl⟩
    · rw [ra.length]
      exact f _ _ H w (.int _) (Ext.refl _ _) o
  · cases rx
    exact ⟨_, z.length, rfl, ⟨hz, rfl⟩, f _ _ H w (.int _) (Ext.refl _ _) o⟩
/-! ### type, isinstance -/
def kindD : D → String
  | .non => "NoneType" | .bl _ => "bool" | .int _ => "int" | .str _ => "str" | .tup _ => "tuple" | .lst _ => "list" | .seq _ => "list" | .emp => "dict" | .ptr _ => "" | .ty _ => ""
def isObjD : D → Bool
  | .ptr _ => false | .ty _ => false | _ => true
theorem rep_tyB {K : PySem.W.Frag} {q H x d} (r : Rep K q H x d) (h : isObjD d = true) : TyB K H x (kindD d) := by
  cases r with
  | non => exact .non
  | bl b => exact .bl b
  | int i => exact .int i
  | str z => exact .str z
  | tup g _ => exact .tup g.sq
  | lst g _ _ _ => exact .lst (.of g)
  | seq g _ _ => exact .lst (.of g)
  | emp g _ => exact .dK g
  | ptr _ => cases h
  | ty _ => cases h
def typeD : DCall := fun ds q => ∃ d, ds = [d] ∧ isObjD d = true ∧ q (.ty (kindD d))
theorem cd_type : CallD X.K p (rTyp X.K) typeD := by
  rintro xs ds H q Q r o ⟨d, rfl, h, w⟩ f
  obtain ⟨x, rfl, rx⟩ := r.one
  exact ⟨x, _, rfl, rep_tyB rx h, f _ _ H w (.ty _) (Ext.refl _ _) o⟩
theorem rep_tyX {K : PySem.W.Frag} {q H x d} (r : Rep K q H x d) (h : isObjD d = true) : TyX K H x (.type (kindD d)) := by
  cases r with
  | non => exact .base .non
  | bl b => exact .base (.bl b)
  | int i => exact .base (.int i)
  | str z => exact .base (.str z)
  | tup g _ =>
    rcases g with ⟨g | ⟨o, g⟩, _⟩ | ⟨o, its, n, hk, hc, _⟩
    · exact .base (.tup g)
    · exact .fTuple g
    · exact .kTuple hk hc
  | lst g _ _ _ => exact .base (.lst g)
  | seq g _ _ => exact .base (.lst g)
  | emp g _ => exact .base (.dK g)
  | ptr _ => cases h
  | ty _ => cases h
def isaT (a b : String) : Bool := decide (a = b) || (decide (a = "bool") && decide (b = "int"))
theorem kind_known : ∀ d : D, isObjD d = true → kindD d ∈ knownTy := by
  intro d h
  cases d <;> first | (cases h; done) | (show (_ : String) ∈ knownTy; unfold kindD knownTy; simp)
theorem kit_known {K : PySem.W.Frag} {a b : String} (ha : a ∈ knownTy) (hb : b ∈ knownTy) : PySem.W.kitOne K (.type a) (.type b) = some (isaT a b) := by
  have h : ∀ a ∈ knownTy, ∀ b ∈ knownTy, kitB a b = some (isaT a b) := by decide +kernel
  exact kit_ty (h a ha b hb)
def isiD : DCall := fun ds q => ∃ d n, ds = [d, .ty n] ∧ isObjD d = true ∧ n ∈ knownTy ∧ q (.bl (isaT (kindD d) n))
theorem cd_isi : CallD X.K p (rIsi X.K) isiD := by
  rintro xs ds H q Q r o ⟨d, n, rfl, h, hn, w⟩ f
  obtain ⟨x, y, rfl, rx, ry⟩ := r.two
  cases ry
  exact ⟨x, .ty n, _, _, _, rfl, .ty n, rep_tyX rx h, kit_known (kind_known d h) hn, f _ _ H w (.bl _) (Ext.refl _ _) o⟩
/-! ### int, str, abs, min, max, divmod -/
def intC : DCall := fun ds q => (∃ i, ds = [.int i] ∧ q (.int i)) ∨ ∃ b, ds = [.bl b] ∧ q (.int (b2z b))
theorem cd_int : CallD X.K p (fun xs H Q => (∃ i, xs = [.int i] ∧ Q (.int i) H) ∨ ∃ k, xs = [.bl k] ∧ Q (.int (if k then 1 else 0)) H) intC := by
  rintro xs ds H q Q r o w f
  rcases w with ⟨i, rfl, w⟩ | ⟨b, rfl, w⟩
  · obtain ⟨x, rfl, rx⟩ := r.one
    cases rx
    exact .inl ⟨i, rfl, f _ _ H w (.int _) (Ext.refl _ _) o⟩
  · obtain ⟨x, rfl, rx⟩ := r.one
    cases rx
    exact .inr ⟨b, rfl, f _ _ H w (.int _) (Ext.refl _ _) o⟩
def rStrB : List V → Hp → VK → Prop := fun xs H Q => ∃ b, xs = [.bl b] ∧ Q (.str (if b then "True" else "False")) H
theorem call_strB : CallR X (.type "str") rStrB := by
  intro pins s σ H xs us Q I r h
  obtain ⟨b, rfl, q⟩ := h
  cases r with
  | cons rx rr =>
    cases rr
    cases rx
    exact PySem.P.str_of_bool ⟨.str _, H, I.tok _, ⟨_, rfl⟩, q⟩
def strB : DCall := fun ds q => ∃ b, ds = [.bl b] ∧ q (.str (if b then "True" else "False"))
theorem cd_strB {K} : CallD K p rStrB strB := by
  rintro xs ds H q Q r o ⟨b, rfl, w⟩ f
  obtain ⟨x, rfl, rx⟩ := r.one
  cases rx
  exact ⟨b, rfl, f _ _ H w (.str _) (Ext.refl _ _) o⟩
def absC : DCall := fun ds q => ∃ i, ds = [.int i] ∧ q (.int (if i < 0 then -i else i))
theorem cd_abs {K} : CallD K p (fun xs H Q => ∃ i, xs = [.int i] ∧ Q (.int (if i < 0 then -i else i)) H) absC := by
  rintro xs ds H q Q r o ⟨i, rfl, w⟩ f
  obtain ⟨x, rfl, rx⟩ := r.one
  cases rx
  exact ⟨i, rfl, f _ _ H w (.int _) (Ext.refl _ _) o⟩
def intC2 (g : Int → Int → Int) : DCall := fun ds q => ∃ i j, ds = [.int i, .int j] ∧ q (.int (g i j))
theorem cd_int2 {K} {g : Int → Int → Int} : CallD K p (fun xs H Q => ∃ i j, xs = [.int i, .int j] ∧ Q (.int (g i j)) H) (intC2 g) := by
  rintro xs ds H q Q r o ⟨i, j, rfl, w⟩ f
  obtain ⟨x, y, rfl, rx, ry⟩ := r.two
  cases rx; cases ry
  exact ⟨i, j, rfl, f _ _ H w (.int _) (Ext.refl _ _) o⟩
/-! ### list(t), tuple(l), all(l) -/
def rListT (K : PySem.W.Frag) : List V → Hp → VK → Prop := fun xs H Q => ∃ a ys, xs = [.ref a] ∧ SqT K H a ys ∧ ∀ l, H l = none → l ≠ sysModules → Q (.ref l) (upd H l (.lst ys))
theorem call_listT : CallR X (.type "list") (rListT X.K) := by
  intro pins s σ H xs us Q I r h
  obtain ⟨a, ys, rfl, hq, q⟩ := h
  cases r with
  | cons rx rr =>
    cases rr
    cases rx
    obtain ⟨its, r', pl, hz⟩ := I.tuple hq
    have hlen := r'.length
    obtain ⟨o, ho, hc, n, hd⟩ := pl
    refine call_list_seq a (.inr rfl) ho hc hd (fun h' c' kp e => ?_) (by simp only [List.size_toArray] <;> omega)
    exact ⟨.ref s.heap.objs.size, _, I.laid (t' := s.toks) kp (Nat.le_refl _) (show ObjOk X.prog X.w _ h' _ (.lst ys) from ⟨hz, its, c', r', e⟩), rfl, q _ (I.hok.fresh (Nat.le_refl _)) (Nat.ne_of_gt I.big)⟩
def listC : DCall := fun ds q => ∃ xs, ds = [.tup xs] ∧ q (.lst xs)
theorem cd_list : CallD X.K p (rListT X.K) listC := by
  rintro xs ds H q Q r o ⟨zs, rfl, w⟩ f
  obtain ⟨x, rfl, rx⟩ := r.one
  cases rx with
  | tup h ra => exact ⟨_, _, rfl, h.sq, fun l n z => f _ _ _ w (new_lst ra n z o) (Ext.new n) (o.new n)⟩
def tupleC : DCall := fun ds q => ∃ d xs, ds = [d] ∧ (d = .lst xs ∨ d = .seq xs) ∧ q (.tup xs)
theorem cd_tuple : CallD X.K p (fun xs H Q => ∃ p ys, xs = [.ref p] ∧ ((SqL X.K H p ys ∧ ∀ l, H l = none → Q (.ref l) (upd H l (.tup ys))) ∨ (SqT X.K H p ys ∧ Q (.ref p) H))) tupleC := by
  rintro xs ds H q Q r o ⟨d, zs, rfl, w0, w⟩ f
  obtain ⟨x, rfl, rx⟩ := r.one
  rcases w0 with rfl | rfl
  · cases rx with
    | lst h1 h2 h3 ra => exact ⟨_, _, rfl, .inl ⟨.of h1, fun l n => f _ _ _ w (new_tup ra n o) (Ext.new n) (o.new n)⟩⟩
  · cases rx with
    | seq h1 h2 ra => exact ⟨_, _, rfl, .inl ⟨.of h1, fun l n => f _ _ _ w (new_tup ra n o) (Ext.new n) (o.new n)⟩⟩
theorem rep_bls {K q H} : ∀ {xs : List V} {bs : List Bool}, RepAll K q H xs (bs.map .bl) → xs = bs.map .bl
  | _, [], r => by cases r; rfl
  | _, b :: bs, r => by
    cases r with
    | cons r t => cases r; rw [rep_bls t]; rfl
def allC : DCall := fun ds q => ∃ (d : D) (bs : List Bool), ds = [d] ∧ (d = .lst (bs.map .bl) ∨ d = .seq (bs.map .bl)) ∧ q (.bl (bs.all id))
theorem cd_all : CallD X.K p (rAll X.K) allC := by
  rintro xs ds H q Q r o ⟨d, bs, rfl, e, w⟩ f
  obtain ⟨x, rfl, rx⟩ := r.one
  rcases e with rfl | rfl
  · cases rx with
    | lst h1 h2 h3 ra => have := rep_bls ra; subst this; exact ⟨_, bs, rfl, .of h1, f _ _ H w (.bl _) (Ext.refl _ _) o⟩
  · cases rx with
    | seq h1 h2 ra => have := rep_bls ra; subst this; exact ⟨_, bs, rfl, .of h1, f _ _ H w (.bl _) (Ext.refl _ _) o⟩
/-! ### repr -/
def reprD : DCall := fun ds q => ∃ d, ds = [d] ∧ d.plain = true ∧ d.dp ≤ 50 ∧ d.sz ≤ 1000000 ∧ q (.str d.py.shown)
def rRepr (K : PySem.W.Frag) (p : List Addr) : List V → Hp → VK → Prop := fun xs H Q => ∃ x d, xs = [x] ∧ Rep K p H x d ∧ d.plain = true ∧ d.dp ≤ 50 ∧ d.sz ≤ 1000000 ∧ Q (.str d.py.shown) H
theorem call_repr {q : List Addr} (hg : X.A.guards = some []) (hu : X.A.units + 64 < cLine) : CallR X (.builtin "repr") (rRepr X.K q) := by
  intro pins s σ H xs us Q I r h
  obtain ⟨x, d, rfl, rx, h1, h2, h3, w⟩ := h
  cases r with
  | @cons _ u _ _ rv rr =>
    cases rr
    obtain ⟨as, hr, hn⟩ := Rep.reads I d x _ h1 rx rv
    have hz := py_shown d h1
    have hl : d.py.shown.length ≤ sizeLine := by rw [sizeLine_eq]; omega
    have fin : ∀ (h' : Heap) (u tk : Tok), (∀ b o, s.heap.get? b = some o → h'.get? b = some o) → EP X pins σ Q (.str d.py.shown u) { s with heap := h', toks := tk } := fun h' u tk k => ⟨.str _, H, I.kept k, ⟨u, rfl⟩, w⟩
    have hd := py_depth d h1
    have hs := py_showable d h1
    have big : ∀ {a : Addr}, u = .ref a → wpAny (model X.prog X.w) X.A (call (.builtin "repr") [u]) (EP X pins σ Q) X.xe s := fun {a} e => by
      subst e
      exact repr_of_reads' hr hs (fun _ => hn) hg (by rw [hd]; omega) (fun _ _ e => e) fin hl
    cases rx with
    | non => cases rv; exact PySem.P.repr_of_none (by simpa only [D.py, PyData.shown_none] using fin s.heap _ _ fun _ _ e => e)
    | bl b => cases rv; exact PySem.P.repr_of_bool (by simpa only [D.py, PyData.shown_bool] using fin s.heap _ _ fun _ _ e => e)
    | int i =>
      obtain ⟨t, rfl⟩ := rv
      simp only [D.py, PyData.showable, decide_eq_true_eq] at hs
      exact PySem.P.repr_of_int hs (by simpa only [D.py, PyData.shown_int] using fin s.heap _ _ fun _ _ e => e)
    | str z =>
      obtain ⟨t, rfl⟩ := rv
      simp only [D.py, PyData.shown_str] at hl
      exact PySem.P.repr_of_str (by simpa only [D.py, PyData.shown_str] using fin s.heap _ _ fun _ _ e => e) hl
    | tup _ _ => exact big rv
    | lst _ _ _ _ => exact big rv
    | emp _ _ => exact big rv
    | ptr _ => simp only [D.plain] at h1; cases h1
    | seq _ _ _ => simp only [D.plain] at h1; cases h1
    | ty _ => simp only [D.plain] at h1; cases h1
theorem cd_repr {K} : CallD K p (rRepr K p.av) reprD := by
  rintro xs ds H q Q r o ⟨d, rfl, h1, h2, h3, w⟩ f
  obtain ⟨x, rfl, rx⟩ := r.one
  exact ⟨x, d, rfl, rx, h1, h2, h3, f _ _ H w (.str _) (Ext.refl _ _) o⟩
end
end Dl

set_option Elab.async false
set_option linter.all false
set_option maxRecDepth 100000
set_option maxHeartbeats 4000000
namespace Dl
open PySem PySem.Spec PyProof.Rows L2

/-! ## defs: a promise on data, where nothing is being shown -/
structure FnG (P : Program) (w : World) (K : PySem.W.Frag) (mg : Str → Option Value) (base : Heap) (k : Nat) (f : Addr) (fd : FuncData) (ps : List Str) (sp : Sp) : Prop where
  len : ∀ vs H Q E, sp vs H Q E → vs.length = ps.length
  run : ∀ (A : Around) (outer : List Env) (s : Shared) (H : Hp) (args : Args) (us : List Value) (vs : List V) (Q : VK) (E : XK), Room k A → A.guards = some [] → Env0 P w K mg base A outer s H → BindsTo s fd args (ps.zip us) → Vals vs us → sp vs H Q E →
    codeAny (model P w) A (.call (.ref f) args) (CR CX0 outer P w H s Q E) s
theorem FnG.imp {P : Program} {w : World} {K : PySem.W.Frag} {mg : Str → Option Value} {base : Heap} {k : Nat} {f : Addr} {fd : FuncData} {ps : List Str} {sp sp' : Sp} (F : FnG P w K mg base k f fd ps sp)
    (h : ∀ vs H Q E, sp' vs H Q E → sp vs H Q E) : FnG P w K mg base k f fd ps sp' :=
  ⟨fun vs H Q E q => F.len vs H Q E (h _ _ _ _ q), fun A outer s H args us vs Q E hr hg he hb hv hs => F.run A outer s H args us vs Q E hr hg he hb hv (h _ _ _ _ hs)⟩
theorem FnG.mono {P : Program} {w : World} {K : PySem.W.Frag} {mg : Str → Option Value} {base : Heap} {j k : Nat} {f : Addr} {fd : FuncData} {ps : List Str} {sp : Sp} (F : FnG P w K mg base j f fd ps sp) (h : j ≤ k) : FnG P w K mg base k f fd ps sp :=
  ⟨F.len, fun A outer s H args us vs Q E hr => F.run A outer s H args us vs Q E (hr.mono h)⟩
theorem FnG.of {P : Program} {w : World} {K : PySem.W.Frag} {mg : Str → Option Value} {base : Heap} {k : Nat} {f : Addr} {fd : FuncData} {ps : List Str} {sp : Sp} (F : FnOk P w K mg base CX0 k f fd ps sp) : FnG P w K mg base k f fd ps sp :=
  ⟨F.len, fun A outer s H args us vs Q E hr _ => F.run A outer s H args us vs Q E hr⟩
theorem fn_ofG {P : Program} {w : World} {K : PySem.W.Frag} {mg : Str → Option Value} {base : Heap} {k : Nat} {f : Addr} {name qual : Str} {params : Arguments} {body : List Stmt} {scope : Scope} {dV kV doc pm cdv ct oc : Value} {an od : Option Addr}
    {osl : Array (Option Value)} {N ps : List Str} {sp : Sp} (lk : K.lookup f = some ⟨oc, od, .func (PySem.W.fnOf name qual params body scope dV kV doc pm an cdv ct), osl⟩) (hcd : PySem.W.codeIn K cdv qual = true) (S : FnScope N ps scope)
    (len : ∀ vs H Q E, sp vs H Q E → vs.length = ps.length)
    (hbody : ∀ (A : Around) (outer : List Env) (s : Shared) (H : Hp) (vs : List V) (Q : VK) (E : XK), Room k (A.deeper (envOfC qual scope s.heap.objs.size f cdv)) → A.guards = some [] → sp vs H Q E →
      ∃ t, PSs (cxOf CX0 P w K mg base N qual scope f cdv A outer s H E) body t ∧ t { nx := fun _ H' => Q .non H', rt := Q } (L2.start N vs) H) :
    FnG P w K mg base (k + 1) f (PySem.W.fnOf name qual params body scope dV kV doc pm an cdv ct) ps sp := by
  refine ⟨len, fun A outer s H args us vs Q E hr hgd e0 hb r hsp => ?_⟩
  have hl := len _ _ _ _ hsp
  have KX : K.In s.heap := e0.mod.kin.keeps fun b o e => (e0.bs b o e).1
  have lim : s.heap.NoLimit := e0.mod.nolimit.keeps fun b o e => (e0.bs b o e).1
  have hkind : ∀ y ∈ ps.zip us, scope.names.lookup y.1 = some .local ∨ (scope.names.lookup y.1 = some .cell ∧ ((cellsFrom (s.heap.objs.size + 1) scope.names []).lookup y.1).isSome = true) := fun ⟨n, v⟩ hy => by
    rcases S.par n (List.of_mem_zip hy).1 with q | q
    · exact .inl q
    · exact .inr ⟨q, PySem.W.cellsFrom_some _ _ _ (.inl q)⟩
  refine codeAny_call_function hr.depth (KX _ _ lk) rfl S.co S.gen rfl (PySem.W.codeRec_of KX hcd) (hb _ _ _ _ ?_)
  refine wpAny_newFunctionEnv_cells S.kind hkind fun env he s1 x => ?_
  subst he
  refine ⟨lim.keeps x.toInCall.keep, codeAny_func ?_⟩
  obtain ⟨t, ht, hq⟩ := hbody A outer s H vs Q E (hr.deeper _) hgd hsp
  have I : Inv (cxOf CX0 P w K mg base N qual scope f cdv A outer s H E) [] (L2.start N vs) H s1 := inv_start S hr.hd e0 hl r x
  refine wpAny_mono (ht.run [] s1 (L2.start N vs) H _ I hq) (fun fl s' hs => ?_) fun e s' hs => hs
  have fin : ∀ {σ' : L2.St} {H' : Hp} {v : V} {u : Value}, Inv (cxOf CX0 P w K mg base N qual scope f cdv A outer s H E) [] σ' H' s' → RelV v u → Q v H' → CE outer P w H s Q u s' :=
    fun {σ' H' v u} J rv q => ⟨v, H', J.os, J.bare, J.base, J.hok, rv, q⟩
  cases fl with
  | ret u =>
    obtain ⟨v, σ', H', J, rv, q⟩ := hs
    exact fin J rv q
  | next =>
    obtain ⟨σ', H', J, q⟩ := hs
    exact fin (v := V.non) (u := Value.none) J rfl q
  | brk =>
    obtain ⟨_, _, _, q⟩ := hs
    exact False.elim q
  | cont =>
    obtain ⟨_, _, _, q⟩ := hs
    exact False.elim q
section
variable {P : Program} {w : World} {K : PySem.W.Frag} {mg : Str → Option Value} {base : Heap}
theorem FunG.ok {x qual : Str} {st : Stmt} {f : Addr} {fd : FuncData} {N ps : List Str} {k : Nat} {sp : Sp} (F : Fun K x qual st f fd) (S : FnScope N ps (defScope st)) (len : ∀ vs H Q E, sp vs H Q E → vs.length = ps.length)
    (hbody : ∀ (cdv : Value) (A : Around) (outer : List Env) (s : Shared) (H : Hp) (vs : List V) (Q : VK) (E : XK), Room k (A.deeper (envOfC qual (defScope st) s.heap.objs.size f cdv)) → A.guards = some [] → sp vs H Q E →
      ∃ t, PSs (cxOf CX0 P w K mg base N qual (defScope st) f cdv A outer s H E).nox (defBody st) t ∧ t { nx := fun _ H' => Q .non H', rt := Q } (L2.start N vs) H) : FnG P w K mg base (k + 1) f fd ps sp := by
  obtain ⟨oc, od, kV, doc, pm, an, cdv, ct, osl, rfl, lk, hcd⟩ := F.ex
  refine fn_ofG lk hcd S len fun A outer s H vs Q E hr hg hsp => ?_
  obtain ⟨t, h, q⟩ := hbody cdv A outer s H vs Q E hr hg hsp
  exact ⟨t, h.nox, q⟩
/-- a promise on data -/
def spD (K : PySem.W.Frag) (R : Res) (Fd : DCall) : Sp := fun vs H Q _ => ∃ ds q, RepAll K R.av H vs ds ∧ Pot R H ∧ Fd ds q ∧ Fin K R H q Q
def startD (N : List Str) (ds : List D) : DE := ds.map some ++ List.replicate (N.length - ds.length) none
theorem start_env {R : Res} {N : List Str} {H : Hp} {vs : List V} {ds : List D} (r : RepAll K R.av H vs ds) : REnv K R.av H (L2.start N vs) (startD N ds) := by
  refine ⟨by unfold L2.start startD; rw [List.length_append, List.length_append, List.length_map, List.length_map, List.length_replicate, List.length_replicate, r.length], fun i d e => ?_⟩
  unfold startD at e
  unfold L2.start
  by_cases hi : i < ds.length
  · rw [List.getElem?_append_left (by rw [List.length_map]; exact hi), List.getElem?_map] at e
    have hi' : i < vs.length := by rw [r.length]; exact hi
    rw [List.getElem?_append_left (by rw [List.length_map]; exact hi'), List.getElem?_map]
    cases q : ds[i]? with
    | none => rw [q] at e; cases e
    | some d' =>
      rw [q] at e
      cases e
      obtain ⟨v, hv, rv⟩ := r.get q
      exact ⟨v, by rw [hv]; rfl, rv⟩
  · rw [List.getElem?_append_right (by rw [List.length_map]; omega), List.getElem?_replicate] at e
    split at e <;> cases e
/-- THE RULE for a def: its body's reading on data -/
theorem FunD.ok {x qual : Str} {st : Stmt} {f : Addr} {fd : FuncData} {N ps : List Str} {k : Nat} {R : Res} {Fd : DCall} (F : Fun K x qual st f fd) (S : FnScope N ps (defScope st)) (len : ∀ ds q, Fd ds q → ds.length = ps.length)
    (hbody : ∀ (cdv : Value) (A : Around) (outer : List Env) (s : Shared) (H : Hp) (E : XK) (ds : List D) (q : D → Prop), Room k (A.deeper (envOfC qual (defScope st) s.heap.objs.size f cdv)) → A.guards = some [] → Fd ds q →
      ∃ t, ESs (cxOf CX0 P w K mg base N qual (defScope st) f cdv A outer s H E).nox R (defBody st) t ∧ t ⟨fun _ => q .non, q⟩ (startD N ds)) : FnG P w K mg base (k + 1) f fd ps (spD K R Fd) := by
  refine FunG.ok F S (fun vs H Q E ⟨ds, q, r, _, h, _⟩ => by rw [r.length]; exact len ds q h) (fun cdv A outer s H vs Q E hr hg ⟨ds, q, r, o, h, f⟩ => ?_)
  obtain ⟨t, ht, hq⟩ := hbody cdv A outer s H E ds q hr hg h
  exact ⟨_, ht, _, _, start_env r, o, hq, fun ρ σ H' w r' e o' => f _ _ H' w .non e o', f⟩
end
section
variable {X : Cx} {R : Res} {pos : Pos}
theorem run_fnG {k : Nat} {f : Addr} {fd : FuncData} {ps : List Str} {sp : Sp} {pins : List (Addr × Obj)} {σ : L2.St} {H : Hp} {s : Shared} {Q : VK} {us : List Value} {vs : List V} (F : FnG X.prog X.w X.K X.mg X.base k f fd ps sp) (hr : Room k X.A) (hg : X.A.guards = some []) (hb : Binds X.K fd ps [])
    (I : Inv X pins σ H s) (r : Vals vs us) (h : sp vs H Q E0) : wpAny (model X.prog X.w) X.A (call (.ref f) us) (EP X pins σ Q) X.xe s := by
  have hl : us.length = ps.length := by rw [← r.length]; exact F.len _ _ _ _ h
  have hb' := hb s us I.kIn (by rw [List.append_nil]; exact hl)
  rw [List.append_nil] at hb'
  refine wpAny_call (codeAny_mono (F.run X.A X.stack s H ⟨us, []⟩ us vs Q E0 hr hg I.env0 hb' r h) fun r s' hq => ?_)
  cases r with
  | error e => exact hq.elim
  | ok fl =>
    cases fl with
    | ret u => exact I.after hq
    | next => exact False.elim hq
    | brk => exact False.elim hq
    | cont => exact False.elim hq
theorem pe_callG {k : Nat} {f : Addr} {fd : FuncData} {ps : List Str} {sp : Sp} {x : Str} {p : Pos} {e : Expr} {es : List Expr} {t : TA} (F : FnG X.prog X.w X.K X.mg X.base k f fd ps sp) (hr : Room k X.A) (hgd : X.A.guards = some []) (hg : Gl X x) (hm : X.mg x = some (.ref f)) (hk : PySem.W.keepIn X.K (.ref f) = true) (hb : Binds X.K fd ps [])
    (ha : PA X (e :: es) t) (hdb : (x == ("__debug__" : Str)) = false := by decide) (he : starEach (e :: es) X.env = (false, eval e X.env) :: starEach es X.env := by rfl) (hpl : (backTo pos (starEach es X.env)).any (·.1) = false := by rfl) :
    PE X (.Call (.Name x p) (e :: es) [] pos) (fun σ H Q => t σ H fun vs H1 => sp vs H1 Q E0) := by
  refine ⟨fun pins s σ H Q I h => ?_⟩
  refine wpAny_Call_Name_kw (ld_glob I hg hm ?_ hdb)
  refine PySem.W.callWith_K (h₀ := X.base) I.ok.mod.kin hk (thn (ha.run pos pins s σ H _ I h) fun us s1 ⟨vs, H1, I1, r, q⟩ => ⟨I1.kIn, ?_⟩) he hpl
  exact run_fnG F hr hgd hb I1 r q
/-- all that a call of a def asks: its promise, its place, how it binds -/
structure Def (P : Program) (w : World) (K : PySem.W.Frag) (mg : Str → Option Value) (base : Heap) (x : Str) (k : Nat) (sp : Sp) : Prop where
  ex : ∃ (f : Addr) (fd : FuncData) (ps : List Str), FnG P w K mg base k f fd ps sp ∧ mg x = some (.ref f) ∧ PySem.W.keepIn K (.ref f) = true ∧ Binds K fd ps []
/-- f(e, ..) -/
theorem d_call {k : Nat} {x : Str} {p : Pos} {e : Expr} {es : List Expr} {ta : TDA} {Fd : DCall} (F : Def X.prog X.w X.K X.mg X.base x k (spD X.K R Fd)) (hr : Room k X.A) (hgd : X.A.guards = some []) (ha : EA X R (e :: es) ta) (hg : Gl X x := by rfl)
    (hdb : (x == ("__debug__" : Str)) = false := by decide) (he : starEach (e :: es) X.env = (false, eval e X.env) :: starEach es X.env := by rfl) (hpl : (backTo pos (starEach es X.env)).any (·.1) = false := by rfl) :
    EE X R (.Call (.Name x p) (e :: es) [] pos) (vCall Fd ta) := by
  obtain ⟨f, fd, ps, F, hm, hk, hb⟩ := F.ex
  exact PE_imp (pe_callG F hr hgd hg hm hk hb ha hdb he hpl) fun σ H Q ⟨ρ, q, hr, ho, w, f⟩ => ⟨ρ, _, hr, ho, w, fun ds vs H1 w1 r1 e1 o1 => ⟨ds, q, r1, o1, w1, f.step e1⟩⟩
/-- a local name that holds one of several defs -/
def vCallA (i : Nat) (S : Addr → DCall → Prop) (ta : TDA) : TDE := fun ρ q => ∃ f Fd, ρ[i]? = some (some (.ptr f)) ∧ S f Fd ∧ ta ρ fun ds => Fd ds q
structure HeldG (P : Program) (w : World) (K : PySem.W.Frag) (mg : Str → Option Value) (base : Heap) (k : Nat) (f : Addr) (sp : Sp) : Prop where
  ex : ∃ (fd : FuncData) (ps : List Str), FnG P w K mg base k f fd ps sp ∧ PySem.W.keepIn K (.ref f) = true ∧ Binds K fd ps []
theorem d_callA {k i : Nat} {x : Str} {p : Pos} {e : Expr} {es : List Expr} {ta : TDA} {S : Addr → DCall → Prop} (A : ∀ f Fd, S f Fd → HeldG X.prog X.w X.K X.mg X.base k f (spD X.K R Fd)) (hr : Room k X.A) (hgd : X.A.guards = some []) (ha : EA X R (e :: es) ta)
    (hN : X.N[i]? = some x := by rfl) (hv : Vis X.env.scope x := by first | exact Or.inl rfl | exact Or.inr (Or.inl rfl) | exact Or.inr (Or.inr rfl))
    (hdb : (x == ("__debug__" : Str)) = false := by decide) (hcd : (x == ("__classdict__" : Str)) = false := by decide)
    (he : starEach (e :: es) X.env = (false, eval e X.env) :: starEach es X.env := by rfl) (hpl : (backTo pos (starEach es X.env)).any (·.1) = false := by rfl) : EE X R (.Call (.Name x p) (e :: es) [] pos) (vCallA i S ta) := by
  refine ⟨fun pins s σ H Q I ⟨ρ, q, hre, ho, ⟨f, Fd, hs, hS, w⟩, fi⟩ => ?_⟩
  obtain ⟨v, hv1, hv2⟩ := hre.get hs
  cases hv2
  obtain ⟨fd, ps, F, hk, hb⟩ := (A f Fd hS).ex
  refine wpAny_Call_Name_kw (thn ((pe_var (pos := p) hN hv hdb hcd).run pins s σ H (fun v H1 => v = .ref f ∧ H1 = H) I ⟨.ref f, hv1, rfl, rfl⟩) fun u s1 ⟨v, H1, I1, r1, q1⟩ => ?_)
  obtain ⟨rfl, rfl⟩ := q1
  cases r1
  refine PySem.W.callWith_K (h₀ := X.base) I.ok.mod.kin hk (thn (ha.run pos pins s1 σ _ _ I1 ⟨ρ, _, hre, ho, w, fun ds vs H1 w1 r1 e1 o1 => (show spD X.K R Fd vs H1 Q E0 from ⟨ds, q, r1, o1, w1, fi.step e1⟩)⟩) fun us s2 ⟨vs, H2, I2, r, q⟩ => ⟨I2.kIn, ?_⟩) he hpl
  exact run_fnG F hr hgd hb I2 r q

/-! ## statements -/
def sNil : TDS := fun e ρ => e.nx ρ
def sSeq (t u : TDS) : TDS := fun e ρ => t ⟨u e, e.rt⟩ ρ
theorem ss_nil : ESs X R [] sNil := PSs_imp pss_nil fun E σ H ⟨ρ, e, r, o, w, f⟩ => f.nx ρ σ H w r (Ext.refl _ _) o
theorem ss_cons {st : Stmt} {rest : List Stmt} {t u : TDS} (h1 : ES X R st t) (h2 : ESs X R rest u) : ESs X R (st :: rest) (sSeq t u) := PSs_imp (pss_cons h1 h2) fun E σ H ⟨ρ, e, r, o, w, f⟩ =>
  ⟨ρ, _, r, o, w, fun ρ' σ' H' w' r' x' o' => ⟨ρ', e, r', o', w', f.step x'⟩, f.rt⟩
theorem ss_one {st : Stmt} {t : TDS} (h1 : ES X R st t) : ESs X R [st] t := pss_one h1
def sSet (i : Nat) (t : TDE) : TDS := fun e ρ => t ρ fun d => e.nx (ρ.set i (some d))
theorem s_set {i : Nat} {x : Str} {e : Expr} {t : TDE} {pos' : Pos} (nd : X.N.Nodup) (he : EE X R e t) (hi : X.N[i]? = some x := by rfl) (hx : Loc X.env.scope x := by first | exact Or.inl rfl | exact Or.inr rfl)
    (hs : swapsWith e (some (.Name x pos')) pos.line X.env = pure false := by rfl) (hf : X.fn x = true ∨ X.env.scope.names.lookup x = some .local := by first | exact .inl rfl | exact .inr rfl) : ES X R (.Assign [.Name x pos'] e pos) (sSet i t) :=
  PS_imp (ps_set nd hi hx he hs hf) fun E σ H ⟨ρ, en, r, o, w, f⟩ => ⟨ρ, _, r, o, w, fun d v H1 w1 r1 e1 o1 => f.nx _ _ H1 w1 ((r.mono e1).set r1 i) e1 o1⟩
def sRet (t : TDE) : TDS := fun e ρ => t ρ e.rt
theorem s_ret {e : Expr} {t : TDE} (he : EE X R e t) : ES X R (.Return (some e) pos) (sRet t) := PS_imp (ps_ret he) fun E σ H ⟨ρ, en, r, o, w, f⟩ => ⟨ρ, _, r, o, w, f.rt⟩
def sIf (c : TDT) (t u : TDS) : TDS := fun e ρ => c ρ fun b => if b = true then t e ρ else u e ρ
theorem s_if {c : Expr} {a b : List Stmt} {tc : TDT} {t u : TDS} (hc : ET X R c tc) (ha : ESs X R a t) (hb : ESs X R b u) : ES X R (.If c a b pos) (sIf tc t u) := PS_imp (ps_if hc ha hb) fun E σ H ⟨ρ, en, r, o, w, f⟩ => by
  refine ⟨ρ, _, r, o, w, fun k H1 w1 e1 o1 => ?_⟩
  cases k with
  | true => rw [if_pos rfl] at w1 ⊢; exact ⟨ρ, en, r.mono e1, o1, w1, f.step e1⟩
  | false => rw [if_neg Bool.false_ne_true] at w1 ⊢; exact ⟨ρ, en, r.mono e1, o1, w1, f.step e1⟩
/-- a, b = x, y -/
def sPar (i j : Nat) (t : TDA) : TDS := fun e ρ => t ρ fun ds => ∃ d c, ds = [d, c] ∧ e.nx ((ρ.set i (some d)).set j (some c))
theorem s_par {i j : Nat} {x y : Str} {a b : Expr} {t : TDA} {px py pt : Pos} {kt k2 pt2} (nd : X.N.Nodup) (hc : X.calm = true) (hij : i ≠ j) (ha : EA X R [a, b] t) (hi : X.N[i]? = some x := by rfl) (hj : X.N[j]? = some y := by rfl)
    (hx : X.env.scope.names.lookup x = some .local := by rfl) (hy : X.env.scope.names.lookup y = some .local := by rfl)
    (hw : swappedStores [.Tuple [.Name x px, .Name y py] kt pt] (.Tuple [a, b] k2 pt2) X.env = pure (some [x, y]) := by rfl)
    (hs : swapsWithSole [.Tuple [.Name x px, .Name y py] kt pt] (.Tuple [a, b] k2 pt2) pos.line X.env = pure false := by rfl) :
    ES X R (.Assign [.Tuple [.Name x px, .Name y py] kt pt] (.Tuple [a, b] k2 pt2) pos) (sPar i j t) :=
  PS_imp (ps_par hc nd hi hj hij hx hy ha hw hs) fun E σ H ⟨ρ, en, r, o, w, f⟩ => by
    refine ⟨ρ, _, r, o, w, ?_⟩
    rintro ds vs H1 ⟨d, c, rfl, w1⟩ r1 e1 o1
    obtain ⟨u, v, rfl, r2, r3⟩ := r1.two
    exact ⟨u, v, rfl, f.nx _ _ H1 w1 (((r.mono e1).set r2 i).set r3 j) e1 o1⟩
/-- a, b, .. = a tuple -/
def gNames : List Nat → TGs
  | [] => gNil
  | i :: is => gCons (gName i) (gNames is)
def setAll : List Nat → List D → DE → DE
  | i :: is, d :: ds, ρ => setAll is ds (ρ.set i (some d))
  | _, _, ρ => ρ
theorem gNames_ok {K : PySem.W.Frag} {q : List Addr} {H : Hp} : ∀ (is : List Nat) (vs : List V) (ds : List D) (σ : L2.St) (ρ : DE) (Q : L2.St → Hp → Prop), RepAll K q H vs ds → vs.length = is.length → REnv K q H σ ρ → (∀ σ', REnv K q H σ' (setAll is ds ρ) → Q σ' H) → gNames is vs σ H Q
  | [], vs, ds, σ, ρ, Q, r, hl, hr, h => by
    have e : vs = [] := List.eq_nil_of_length_eq_zero hl
    subst e
    cases r
    exact ⟨rfl, h σ hr⟩
  | i :: is, vs, ds, σ, ρ, Q, r, hl, hr, h => by
    cases r with
    | nil => cases hl
    | cons r t => exact ⟨_, _, rfl, gNames_ok is _ _ _ _ Q t (by simpa using hl) (hr.set r i) h⟩
def sUnp (is : List Nat) (t : TDE) : TDS := fun e ρ => t ρ fun d => ∃ ds, d = .tup ds ∧ ds.length = is.length ∧ e.nx (setAll is ds ρ)
theorem s_unp {is : List Nat} {es : List Expr} {e : Expr} {t : TDE} {k : Nat} {tp : Pos} (hc : X.calm = true) (hg : PGs X es (gNames is)) (he : EE X R e t) (hn : (assignEach es X.env).length = is.length := by rfl) (hst : (assignEach es X.env).findIdx? (·.1) = none := by rfl)
    (hs : swapsWithSole [.Tuple es k tp] e pos.line X.env = pure false := by rfl) (hw : swappedStores [.Tuple es k tp] e X.env = pure none := by rfl)
    (h1 : (assignEach [.Tuple es k tp] X.env).map (·.2) = [assign (.Tuple es k tp) X.env] := by rfl) : ES X R (.Assign [.Tuple es k tp] e pos) (sUnp is t) :=
  PS_imp (ps_asg he (pg_tup hc hg hn hst) hs hw h1) fun E σ H ⟨ρ, en, r, o, w, f⟩ => by
    refine ⟨ρ, _, r, o, w, ?_⟩
    rintro d v H1 ⟨ds, rfl, hl, w1⟩ r1 e1 o1
    cases r1 with
    | tup h ra =>
      refine ⟨_, _, rfl, h.sq, by rw [ra.length]; exact hl, ?_⟩
      exact gNames_ok is _ ds σ ρ _ ra (by rw [ra.length]; exact hl) (r.mono e1) fun σ' hr' => f.nx _ σ' H1 w1 hr' e1 o1

/-! ## what is walked -/
abbrev TDI := DE → (List D → Prop) → Prop
/-- the items, as they are walked: ds; nothing is made -/
def Walked (K : PySem.W.Frag) (R : Res) (H : Hp) (J : It) (ds : List D) : Prop :=
  ∃ (G : Hp → Prop) (Y : Nat → Hp → V → Hp → Prop), L2.Walk J ds.length G Y ∧ (∀ H', Ext R.av H H' → G H') ∧ ∀ i H1 x H2, i < ds.length → Ext R.av H H1 → Y i H1 x H2 → H2 = H1 ∧ ∃ d, ds[i]? = some d ∧ Rep K R.av H x d
def tDI (K : PySem.W.Frag) (R : Res) (t : TDI) : TI := fun σ H W => ∃ ρ q, REnv K R.av H σ ρ ∧ Pot R H ∧ t ρ q ∧ ∀ ds J H', q ds → Walked K R H' J ds → Ext R.p H H' → Pot R H' → W J H'
abbrev EI (X : Cx) (R : Res) (tg iter : Expr) (t : TDI) : Prop := PI X tg iter (tDI X.K R t)
theorem PI_imp {tg iter : Expr} {t t' : TI} (h : PI X tg iter t) (i : ∀ σ H W, t' σ H W → t σ H W) : PI X tg iter t' := ⟨fun pins s σ H W I w => h.run pins s σ H W I (i σ H W w)⟩
def iLst (t : TDE) : TDI := fun ρ q => t ρ fun d => ∃ ds, (d = .lst ds ∨ d = .seq ds) ∧ q ds
theorem i_lst {tg e : Expr} {t : TDE} (he : EE X R e t) : EI X R tg e (iLst t) := PI_imp (pi_list he) fun σ H W ⟨ρ, q, r, o, w, f⟩ => by
  refine ⟨ρ, _, r, o, w, ?_⟩
  rintro d v H1 ⟨ds, hd, w1⟩ r1 e1 o1
  have go : ∀ {a : Addr} {xs : List V}, H1 a = some (.lst xs) → a ∉ R.av → RepAll X.K R.av H1 xs ds → ∃ b, V.ref a = .ref b ∧ (∃ xs, SqL X.K H1 b xs) ∧ W (Itl X.K b) H1 := fun {a xs} h n ra => by
    refine ⟨a, rfl, ⟨xs, .of h⟩, f ds _ H1 w1 ⟨fun H => SqL X.K H a xs, YAt xs, ?_, fun H' e => .of (e _ _ n h), ?_⟩ e1 o1⟩
    · rw [← ra.length]; exact walk_list
    · rintro i H2 x H3 hil e2 ⟨rfl, hx⟩
      obtain ⟨d, h1, h2⟩ := ra.get' hx
      exact ⟨rfl, d, h1, h2⟩
  rcases hd with rfl | rfl
  · cases r1 with
    | lst h n z ra => exact go h n ra
  · cases r1 with
    | seq h n ra => exact go h n ra
def iStrD (t : TDE) : TDI := fun ρ q => t ρ fun d => ∃ z : Str, d = .str z ∧ q (z.cps.toList.map fun c => .str ⟨#[c]⟩)
theorem i_str {tg e : Expr} {t : TDE} (he : EE X R e t) : EI X R tg e (iStrD t) := PI_imp (pi_str he) fun σ H W ⟨ρ, q, r, o, w, f⟩ => by
  refine ⟨ρ, _, r, o, w, ?_⟩
  rintro d v H1 ⟨z, rfl, w1⟩ r1 e1 o1
  cases r1
  refine ⟨z, rfl, f _ _ H1 w1 ⟨fun _ => True, fun i H v H' => H' = H ∧ ∃ c, z.cps[i]? = some c ∧ v = .str ⟨#[c]⟩, ?_, fun _ _ => trivial, ?_⟩ e1 o1⟩
  · rw [List.length_map]
    exact walk_str
  · rintro i H2 x H3 hil e2 ⟨rfl, c, hc, rfl⟩
    refine ⟨rfl, .str ⟨#[c]⟩, ?_, .str _⟩
    rw [List.getElem?_map]
    have : z.cps.toList[i]? = some c := by simpa using hc
    rw [this]
    rfl
/-- range(n) -/
def iRangeD (t : TDA) : TDI := fun ρ q => t ρ fun ds => ∃ n : Int, ds = [.int n] ∧ n < 2 ^ 62 ∧ -(2 ^ 62) ≤ n ∧ q ((List.range n.toNat).map fun (k : Nat) => .int (k : Int))
theorem i_range {tg e : Expr} {p0 pos : Pos} {t : TDA} (hm : X.mg "range" = none) (he : EA X R [e] t) (hg : Gl X "range" := by rfl) (hs : starEach [e] X.env = [(false, eval e X.env)] := by rfl) : EI X R tg (.Call (.Name "range" p0) [e] [] pos) (iRangeD t) := PI_imp (pi_range1 hg hm he hs) fun σ H W ⟨ρ, q, r, o, w, f⟩ => by
  refine ⟨ρ, _, r, o, w, ?_⟩
  rintro ds vs H1 ⟨n, rfl, h1, h2, w1⟩ r1 e1 o1
  obtain ⟨x, rfl, rx⟩ := r1.one
  cases rx
  refine ⟨n, rfl, h2, h1, f _ _ H1 w1 ⟨fun _ => True, YFn fun i => .int (0 + (i : Int)), ?_, fun _ _ => trivial, ?_⟩ e1 o1⟩
  · rw [List.length_map, List.length_range]
    exact walk_range
  · rintro i H2 x H3 hil e2 ⟨rfl, rfl⟩
    rw [List.length_map, List.length_range] at hil
    refine ⟨rfl, .int (i : Int), ?_, by show Rep X.K R.av H1 (.int (0 + (i : Int))) _; rw [Int.zero_add]; exact .int _⟩
    rw [List.getElem?_map, List.getElem?_range hil]
    rfl

/-! ## for -/
def sFor (i : Nat) (w : TDI) (tb : TDS) : TDS := fun e ρ => w ρ fun ds => ∃ Iv : Nat → DE → Prop, Iv 0 ρ ∧ (∀ j d ρ', ds[j]? = some d → Iv j ρ' → tb ⟨Iv (j + 1), e.rt⟩ (ρ'.set i (some d))) ∧ ∀ ρ', Iv ds.length ρ' → e.nx ρ'
theorem s_for {i : Nat} {x : Str} {px : Pos} {iter : Expr} {body : List Stmt} {w : TDI} {tb : TDS} (nd : X.N.Nodup) (hp : PassesOwn (model X.prog X.w) X.A X.env X.xe) (hc : X.calm = true) (hi : EI X R (.Name x px) iter w) (hb : ESs X R body tb)
    (hx : X.N[i]? = some x := by rfl) (hl : Loc X.env.scope x := by first | exact Or.inl rfl | exact Or.inr rfl) (hf : X.fn x = true ∨ X.env.scope.names.lookup x = some .local := by first | exact .inl rfl | exact .inr rfl)
    (hs : ∀ x, foldedSetIterable iter X.env x = pure x := by intro _; rfl) : ES X R (.For (.Name x px) iter body [] pos) (sFor i w tb) :=
  PS_imp (ps_for hp hc hi (pg_name nd hx hl hf) hb hs) fun E σ H ⟨ρ, en, r, o, w, f⟩ => by
    refine ⟨ρ, _, r, o, w, ?_⟩
    rintro ds J H1 ⟨Iv, h0, hstep, hend⟩ ⟨G, Y, wk, gs, ys⟩ e1 o1
    refine for_it wk (fun j σ' H' => j ≤ ds.length ∧ Ext R.p H1 H' ∧ Pot R H' ∧ ∃ ρ', REnv X.K R.av H' σ' ρ' ∧ Iv j ρ') ⟨Nat.zero_le _, Ext.refl _ _, o1, ρ, r.mono e1, h0⟩ (fun j σ' H' _ ⟨_, e2, _⟩ => gs H' (Ext.av e2)) ?_ ?_
    · rintro j x σ' H' H'' hj ⟨_, e2, o2, ρ', r2, iv⟩ hy
      obtain ⟨rfl, d, hd, rd⟩ := ys j H' x H'' hj (Ext.av e2) hy
      refine ⟨ρ'.set i (some d), _, r2.set (rd.mono e2) i, o2, hstep j d ρ' hd iv, fun ρ3 σ3 H3 w3 r3 e3 o3 => ?_, f.rt.step (e1.trans e2)⟩
      exact ⟨hj, e2.trans e3, o3, ρ3, r3, w3⟩
    · rintro σ' H' ⟨_, e2, o2, ρ', r2, iv⟩
      exact f.nx ρ' σ' H' (hend ρ' iv) r2 (e1.trans e2) o2
end
end Dl

set_option Elab.async false
set_option linter.all false
set_option maxRecDepth 100000
set_option maxHeartbeats 4000000
namespace Dl
open PySem PySem.Spec PyProof.Rows L2
section
variable {X : Cx} {R : Res} {pos : Pos}
/-! ## [elt for x in iter] -/
def vLc (i : Nat) (w : TDI) (te : TDE) : TDE := fun ρ q => w ρ fun ds => ds.length ≤ sizeLine ∧ ∃ Pj : Nat → D → Prop, (∀ j d, ds[j]? = some d → te (ρ.set i (some d)) (Pj j)) ∧ ∀ es, es.length = ds.length → (∀ (j : Nat) (e : D), es[j]? = some e → Pj j e) → q (.seq es)
/-- the element, where the list at some A is being made -/
def tEl (K : PySem.W.Frag) (R : Res) (te : TDE) : TE := fun σ H Q => ∃ A, tD K (R.add A) te σ H Q
theorem REnv.weak {K p p' H} {σ : L2.St} {ρ : DE} (e : ∀ b ∈ p', b ∈ p) (h : REnv K p H σ ρ) : REnv K p' H σ ρ := ⟨h.1, fun i d q => by
  obtain ⟨v, h1, h2⟩ := h.2 i d q
  exact ⟨v, h1, h2.weak e⟩⟩
/-- data that was there ahead of a new object does not use it -/
theorem Rep.strong {K : PySem.W.Frag} {R : Res} {H : Hp} {A : Addr} (n : H A = none) : ∀ {v : V} {d : D}, Rep K R.av H v d → Rep K (R.add A).av H v d := by
  have key : ∀ b o, H b = some o → b ∉ R.av → b ∉ (R.add A).av := fun b o e h m => by
    rcases List.mem_append.mp m with m | m
    · exact h (List.mem_append_left _ m)
    · rcases List.mem_cons.mp m with rfl | m
      · rw [n] at e; cases e
      · exact h (List.mem_append_right _ m)
  have main : (∀ v d, Rep K R.av H v d → Rep K (R.add A).av H v d) ∧ (∀ vs ds, RepAll K R.av H vs ds → RepAll K (R.add A).av H vs ds) := by
    refine ⟨fun v d h => ?_, fun vs ds h => ?_⟩
    · exact Rep.rec (motive_1 := fun v d _ => Rep K (R.add A).av H v d) (motive_2 := fun vs ds _ => RepAll K (R.add A).av H vs ds) .non (fun b => .bl b) (fun i => .int i) (fun x => .str x)
        (fun h _ ih => .tup (by
          rcases h with ⟨h, nn⟩ | h
          · rcases h with h | ⟨o, h⟩
            · exact .inl ⟨.inl h, key _ _ h nn⟩
            · exact .inl ⟨.inr ⟨o, h⟩, key _ _ h nn⟩
          · exact .inr h) ih) (fun h nn z _ ih => .lst h (key _ _ h nn) z ih) (fun h nn => .emp h (key _ _ h nn)) (fun a => .ptr a) (fun h nn _ ih => .seq h (key _ _ h nn) ih) (fun n => .ty n) .nil (fun _ _ a b => .cons a b) h
    · exact RepAll.rec (motive_1 := fun v d _ => Rep K (R.add A).av H v d) (motive_2 := fun vs ds _ => RepAll K (R.add A).av H vs ds) .non (fun b => .bl b) (fun i => .int i) (fun x => .str x)
        (fun h _ ih => .tup (by
          rcases h with ⟨h, nn⟩ | h
          · rcases h with h | ⟨o, h⟩
            · exact .inl ⟨.inl h, key _ _ h nn⟩
            · exact .inl ⟨.inr ⟨o, h⟩, key _ _ h nn⟩
          · exact .inr h) ih) (fun h nn z _ ih => .lst h (key _ _ h nn) z ih) (fun h nn => .emp h (key _ _ h nn)) (fun a => .ptr a) (fun h nn _ ih => .seq h (key _ _ h nn) ih) (fun n => .ty n) .nil (fun _ _ a b => .cons a b) h
  exact fun {v d} h => main.1 v d h
theorem REnv.strong {K : PySem.W.Frag} {R : Res} {H : Hp} {A : Addr} {σ : L2.St} {ρ : DE} (n : H A = none) (h : REnv K R.av H σ ρ) : REnv K (R.add A).av H σ ρ := ⟨h.1, fun i d q => by
  obtain ⟨v, h1, h2⟩ := h.2 i d q
  exact ⟨v, h1, h2.strong n⟩⟩
theorem REnv.drop {K p H} {σ : L2.St} {ρ : DE} (h : REnv K p H σ ρ) (i : Nat) : REnv K p H (wipe σ [i]) (ρ.set i none) := by
  refine ⟨by rw [wipe_length, List.length_set]; exact h.1, fun j d q => ?_⟩
  have hj : i ≠ j := fun e => by
    subst e
    by_cases hl : i < ρ.length
    · rw [List.getElem?_set_self hl] at q; cases q
    · rw [List.getElem?_eq_none (by rw [List.length_set]; omega)] at q; cases q
  rw [List.getElem?_set_ne hj] at q
  show ∃ v, (σ.set i none)[j]? = some (some v) ∧ _
  rw [List.getElem?_set_ne hj]
  exact h.2 j d q
theorem lc_ok {K : PySem.W.Frag} {i : Nat} {w : TDI} {te : TDE} : ∀ σ H Q, tD K R (vLc i w te) σ H Q → tLc (tDI K R w) (gName i) tYes (tEl K R te) [i] σ H Q := by
  rintro σ H Q ⟨ρ, q, r, o, w0, f⟩
  refine ⟨ρ, _, r, o, w0, ?_⟩
  rintro ds J H1 ⟨hz, Pj, hstep, hend⟩ ⟨G, Y, wk, gs, ys⟩ e1 o1 A nA
  have eA : Ext R.p H1 (upd H1 A (.lst [])) := Ext.new nA
  have rS : REnv K (R.add A).av (upd H1 A (.lst [])) σ ρ := ((r.mono e1).strong nA).mono0 (Ext.new nA)
  refine lc_it wk (fun j H' => j ≤ ds.length ∧ Ext R.p H1 H' ∧ Pot R H' ∧ ∃ acc es, H' A = some (.lst acc) ∧ RepAll K (R.add A).av H' acc es ∧ es.length = j ∧ (∀ (k : Nat) (e : D), es[k]? = some e → Pj k e) ∧ REnv K (R.add A).av H' σ ρ)
    ⟨Nat.zero_le _, eA, o1.new nA, [], [], upd_same, .nil, rfl, fun k e h => by simp at h, rS⟩ (fun j H' _ ⟨_, e2, _⟩ => gs H' (Ext.av e2)) ?_ ?_
  · rintro j x H' H'' hj ⟨_, e2, o2, acc, es, hA, ra, hl, hP, re⟩ hy
    obtain ⟨rfl, d, hd, rd⟩ := ys j H' x H'' hj (Ext.av e2) hy
    have nAp : A ∉ R.p := fun m => (Pot.nin (R := R) o1 nA) (List.mem_append_left _ m)
    have oA : Pot (R.add A) H'' := Pot.add o2 nAp (by rw [hA]; exact fun z => nomatch z)
    -- the item itself was there ahead of the list: it is read at H1
    refine ⟨by show (((σ.set i none).set i (some x)).set i none) = σ.set i none; rw [List.set_set, List.set_set], ?_⟩
    dsimp only [tYes]
    rw [if_pos rfl]
    have hset : ((wipe σ [i]).set i (some x)) = (σ.set i (some x)) := by show (σ.set i none).set i (some x) = _; rw [List.set_set]
    refine ⟨A, ρ.set i (some d), Pj j, ?_, oA, hstep j d hd, ?_⟩
    · rw [hset]
      exact re.set (Rep.mono0 (p := (R.add A).av) (fun b u nb hb => e2 b u (fun m => nb (List.mem_append_left _ m)) hb) (rd.strong nA)) i
    · rintro e y H4 we ry e4 o4
      have h4 : H4 A = some (.lst acc) := e4 A _ (fun m => (Pot.nin (R := R) o1 nA) (List.mem_append_left _ m)) hA
      refine ⟨acc, h4, ?_, hj, ?_, ?_, acc ++ [y], es ++ [e], upd_same, ?_, by rw [List.length_append, hl]; rfl, ?_, ?_⟩
      · have := ra.length
        omega
      · intro b u nb hb
        have nbA : b ≠ A := ne_of_none hb nA
        rw [upd_ne nbA]
        exact e4 b u nb (e2 b u nb hb)
      · refine Pot.mix o1 (fun b u nb hb => ?_) (Pot.of_add o4) (fun b m => upd_ne (fun e => nAp (e ▸ m)))
        rw [upd_ne (ne_of_none hb nA)]
        exact e4 b u nb (e2 b u nb hb)
      · exact ((ra.mono (R := R.add A) e4).append (.cons ry .nil)).mono0 (Ext.put Res.add_mem)
      · intro k e' hk
        by_cases hkl : k < es.length
        · rw [List.getElem?_append_left hkl] at hk
          exact hP k e' hk
        · rw [List.getElem?_append_right (by omega)] at hk
          have hk0 : k - es.length = 0 := by
            by_cases h0 : k - es.length = 0
            · exact h0
            · rw [List.getElem?_eq_none (by simp; omega)] at hk; cases hk
          rw [hk0] at hk
          have : e = e' := by simpa using hk
          subst this
          have : k = j := by omega
          subst this
          exact we
      · exact (re.mono (R := R.add A) e4).mono0 (Ext.put Res.add_mem)
  · rintro H' ⟨_, e2, o2, acc, es, hA, ra, hl, hP, re⟩
    refine f _ _ H' (hend es hl hP) (.seq hA (Pot.nin (R := R) o1 nA) (RepAll.weak (fun b hb => Res.add_av hb) ra)) (e1.trans e2) o2
/-- [elt for x in iter], its own slot i -/
theorem d_lc {i : Nat} {x : Str} {px : Pos} {elt iter : Expr} {scope : Scope} {w : TDI} {te : TDE} (hc : X.calm = true) (nd : X.N.Nodup) (hi : EI X R (.Name x px) iter w) (ok : BlkOk X.N X.env.scope scope [(x, i)])
    (hg : ∀ (s : Shared) (H : Hp) (C : Addr) (cl : List (Str × Addr)) (fp : List Addr), PG (X.blk s H scope (compEnvC scope cl C X.env) fp) (.Name x px) (gName i))
    (he : ∀ (s : Shared) (H : Hp) (C : Addr) (cl : List (Str × Addr)) (fp : List Addr) (A : Addr), EE (X.blk s H scope (compEnvC scope cl C X.env) fp) (R.add A) elt te) (hs : ∀ x, foldedSetIterable iter X.env x = pure x := by intro _; rfl) :
    EE X R (.ListComp elt [⟨.Name x px, iter, [], 0⟩] scope pos) (vLc i w te) :=
  PE_imp (pe_lc (own := [(x, i)]) (g := gName i) (tt := tYes) (te := tEl X.K R te) hc nd hi ok hg (fun _ _ _ _ _ => pts_nil) (fun s H C cl fp => ⟨fun pins s' σ H' Q I ⟨A, w⟩ => (he s H C cl fp A).run pins s' σ H' Q I w⟩) hs) lc_ok

/-! ## texts -/
def vUpper (t : TDE) : TDE := fun ρ q => t ρ fun d => ∃ a, d = .str a ∧ a.length ≤ 5592405 ∧ q (.str (Txt.upper a))
theorem d_upper {o : Expr} {apos pos : Pos} {t : TDE} (ho : EE X R o t) (hbase : attributeBase o "upper" X.env (eval o X.env) = eval o X.env := by rfl) (hline : (apos.endLine == pos.line) = true := by rfl) : EE X R (.Call (.Attribute o "upper" apos) [] [] pos) (vUpper t) :=
  PE_imp (pe_upper ho hbase hline) fun σ H Q ⟨ρ, q, r, o, w, f⟩ => by
    refine ⟨ρ, _, r, o, w, ?_⟩
    rintro d v H1 ⟨a, rfl, hz, w1⟩ r1 e1 o1
    cases r1
    exact ⟨⟨a, rfl⟩, a, rfl, rfl, hz, f _ _ H1 w1 (.str _) e1 o1⟩
theorem rep_strs {K q H} : ∀ {xs : List V} {ys : List Str}, RepAll K q H xs (ys.map .str) → xs = ys.map .str
  | _, [], r => by cases r; rfl
  | _, b :: bs, r => by
    cases r with
    | cons r t => cases r; rw [rep_strs t]; rfl
def vJoin (ts te : TDE) : TDE := fun ρ q => ts ρ fun d => ∃ a, d = .str a ∧ te ρ fun e => ∃ ys : List Str, (e = .lst (ys.map .str) ∨ e = .seq (ys.map .str)) ∧ (ys.map (·.length)).sum + ys.length * a.length ≤ 16777216 ∧ q (.str (Txt.join a ys))
theorem d_join {o e : Expr} {apos pos : Pos} {ts te : TDE} (ho : EE X R o ts) (he : EE X R e te) (hs : starEach [e] X.env = [(false, eval e X.env)] := by rfl) (hbase : attributeBase o "join" X.env (eval o X.env) = eval o X.env := by rfl) (hline : (apos.endLine == pos.line) = true := by rfl) :
    EE X R (.Call (.Attribute o "join" apos) [e] [] pos) (vJoin ts te) :=
  PE_imp (pe_join ho he hs hbase hline) fun σ H Q ⟨ρ, q, r, o, w, f⟩ => by
    refine ⟨ρ, _, r, o, w, ?_⟩
    rintro d v H1 ⟨a, rfl, w1⟩ r1 e1 o1
    cases r1
    refine ⟨⟨a, rfl⟩, ρ, _, r.mono e1, o1, w1, ?_⟩
    rintro e v H2 ⟨ys, hy, hz, w2⟩ r2 e2 o2
    rcases hy with rfl | rfl
    · cases r2 with
      | lst h n z ra => have := rep_strs ra; subst this; exact ⟨a, _, ys, rfl, rfl, .inl (.of h), hz, f _ _ H2 w2 (.str _) (e1.trans e2) o2⟩
    · cases r2 with
      | seq h n ra => have := rep_strs ra; subst this; exact ⟨a, _, ys, rfl, rfl, .inl (.of h), hz, f _ _ H2 w2 (.str _) (e1.trans e2) o2⟩

/-! ## a written dict of the module, with text keys -/
def inKd (K : PySem.W.Frag) (d : Addr) (neg : Bool) : DOp := fun dx dy q => ∃ (z : Str) (r : Option Value), dx = .str z ∧ dy = .ptr d ∧ PySem.W.nsIn K d z = some r ∧ q (.bl (if neg then !r.isSome else r.isSome))
theorem opd_notKd {K : PySem.W.Frag} {d : Addr} : OpD K R (fun x y H Q => ∃ (z : Str) (r : Option Value), x = .str z ∧ y = .ref d ∧ PySem.W.nsIn K d z = some r ∧ Q (.bl (!r.isSome)) H) (inKd K d true) := by
  rintro x y dx dy H q Q rx ry o ⟨z, r, rfl, rfl, e, w⟩ f
  cases rx; cases ry
  exact ⟨z, r, rfl, rfl, e, f _ _ H w (.bl _) (Ext.refl _ _) o⟩
def ixKd (K : PySem.W.Frag) (w : World) : DOp := fun dx dy q => ∃ p z f, dx = .ptr p ∧ dy = .str z ∧ KDct K w p z (.ref f) ∧ q (.ptr f)
theorem opd_ixKd {K : PySem.W.Frag} {w : World} : OpD K R (rIxD K w) (ixKd K w) := by
  rintro x y dx dy H q Q rx ry o ⟨p, z, a, rfl, rfl, e, w⟩ f
  cases rx; cases ry
  exact ⟨p, z, _, rfl, rfl, e, f _ _ H w (.ptr _) (Ext.refl _ _) o⟩
theorem d_ixKd {a b : Expr} {ta tb : TDE} (ha : EE X R a ta) (hb : EE X R b tb) (hs : PlainIx b := by intro _ _; rfl) : EE X R (.Subscript a b pos) (vOp (ixKd X.K X.w) ta tb) := PE_imp (pe_ix ix_kdict ha hb hs) (tOp_of opd_ixKd)
theorem rep_of_strs {K : PySem.W.Frag} {q : List Addr} {H : Hp} : ∀ zs : List Str, RepAll K q H (zs.map V.str) (zs.map .str)
  | [] => .nil
  | z :: zs => .cons (.str z) (rep_of_strs zs)
/-- a module's constant tuple of texts -/
theorem d_gtup {x : Str} {a : Addr} {zs : List Str} {pos : Pos} {o : Obj} {its : Array Value} {n : Nat} (hm : X.mg x = some (.ref a)) (hk : X.K.lookup a = some o) (hc : o.cls = .type "tuple") (hd : o.data = .seq its n) (hz : its.size ≤ sizeLine) (hv : Vals (zs.map V.str) its.toList)
    (hg : Gl X x := by rfl) (hdb : (x == ("__debug__" : Str)) = false := by decide) : EE X R (.Name x pos) (vC (.tup (zs.map .str))) :=
  d_of_c (v := .ref a) (pe_glob (v := .ref a) hg hm rfl hdb) fun H => .tup (.inr ⟨o, its, n, hk, hc, hd, hz, hv⟩) (rep_of_strs zs)
end
end Dl

set_option Elab.async false
set_option linter.all false
set_option maxRecDepth 100000
set_option maxHeartbeats 4000000
namespace Dl
open PySem PySem.Spec PyProof.Rows L2
section
variable {X : Cx} {R : Res} {pos : Pos}
/-! ## pots -/
/-- pot[k]: some int -/
def vPot (a : Addr) (i : Nat) : TDE := fun ρ q => ρ[i]? = some (some (.ptr a)) ∧ ∀ x : Int, q (.int x)
theorem d_pot {a : Addr} {i : Nat} {x : Str} {k : Nat} {j : Nat} {p1 p2 : Pos} (hp : PotAt a R) (hk : k < 3) (hN : X.N[i]? = some x := by rfl) (hv : Vis X.env.scope x := by first | exact Or.inl rfl | exact Or.inr (Or.inl rfl) | exact Or.inr (Or.inr rfl))
    (hd : (x == ("__debug__" : Str)) = false := by decide) (hcd : (x == ("__classdict__" : Str)) = false := by decide) (hs : PlainIx (.Constant (.int (k : Int)) j p2) := by intro _ _; rfl) :
    EE X R (.Subscript (.Name x p1) (.Constant (.int (k : Int)) j p2) pos) (vPot a i) :=
  PE_imp (pe_ix ix_list (pe_var hN hv hd hcd) pe_int hs) fun σ H Q ⟨ρ, q, r, o, ⟨e, w⟩, f⟩ => by
    obtain ⟨v, h1, h2⟩ := r.get e
    cases h2
    obtain ⟨x, y, z, hz⟩ := hp.at_ H o
    refine ⟨_, h1, a, _, (k : Int), ([V.int x, V.int y, V.int z])[k]'(by simpa using hk), rfl, rfl, .of hz, atI_nat (by simp [hk]), ?_⟩
    have : ∃ u : Int, ([V.int x, V.int y, V.int z])[k]'(by simpa using hk) = V.int u := by
      rcases k with _ | _ | _ | k
      · exact ⟨x, rfl⟩
      · exact ⟨y, rfl⟩
      · exact ⟨z, rfl⟩
      · omega
    obtain ⟨u, hu⟩ := this
    rw [hu]
    exact f _ _ H (w u) (.int u) (Ext.refl _ _) o
theorem pot_put {a : Addr} {H : Hp} {k : Nat} {u : Int} (hp : PotAt a R) (o : Pot R H) (hk : k < 3) : ∃ xs, H a = some (.lst xs) ∧ ixN xs.length (k : Int) = some k ∧ Ext R.p H (upd H a (.lst (xs.set k (.int u)))) ∧ Pot R (upd H a (.lst (xs.set k (.int u)))) := by
  obtain ⟨x, y, z, hz⟩ := hp.at_ H o
  refine ⟨_, hz, ?_, Ext.put hp.mem, ?_⟩
  · unfold ixN
    rw [if_pos (by omega), if_pos (by simp; omega)]
    simp
  · rcases k with _ | _ | _ | k
    · exact hp.put H u y z o
    · exact hp.put H x u z o
    · exact hp.put H x y u o
    · omega
/-- pot[k] = e -/
def sPot (a : Addr) (i : Nat) (t : TDE) : TDS := fun e ρ => ρ[i]? = some (some (.ptr a)) ∧ t ρ fun d => ∃ x : Int, d = .int x ∧ e.nx ρ
theorem s_pot {a : Addr} {i : Nat} {x : Str} {k : Nat} {j : Nat} {p1 p2 p3 : Pos} {e : Expr} {t : TDE} (hp : PotAt a R) (hk : k < 3) (he : EE X R e t) (hN : X.N[i]? = some x := by rfl) (hv : Vis X.env.scope x := by first | exact Or.inl rfl | exact Or.inr (Or.inl rfl) | exact Or.inr (Or.inr rfl))
    (hd : (x == ("__debug__" : Str)) = false := by decide) (hcd : (x == ("__classdict__" : Str)) = false := by decide)
    (ha : ∀ v, assign (.Subscript (.Name x p1) (.Constant (.int (k : Int)) j p2) p3) X.env v = (do
      let ov ← holding [v] (eval (.Name x p1) X.env)
      let iv ← holding [v, ov] (eval (.Constant (.int (k : Int)) j p2) X.env)
      standAt p3
      holding [v, ov, iv] (setItem ov iv v)
      release [v, ov, iv] []) := by intro _; rfl)
    (hs : swapsWithSole [.Subscript (.Name x p1) (.Constant (.int (k : Int)) j p2) p3] e pos.line X.env = pure false := by rfl) (hw : swappedStores [.Subscript (.Name x p1) (.Constant (.int (k : Int)) j p2) p3] e X.env = pure none := by rfl)
    (h1 : (assignEach [.Subscript (.Name x p1) (.Constant (.int (k : Int)) j p2) p3] X.env).map (·.2) = [assign (.Subscript (.Name x p1) (.Constant (.int (k : Int)) j p2) p3) X.env] := by rfl) :
    ES X R (.Assign [.Subscript (.Name x p1) (.Constant (.int (k : Int)) j p2) p3] e pos) (sPot a i t) :=
  PS_imp (ps_asg he (pg_sub (pe_var hN hv hd hcd) pe_int set_list ha) hs hw h1) fun E σ H ⟨ρ, en, r, o, ⟨hi, w⟩, f⟩ => by
    refine ⟨ρ, _, r, o, w, ?_⟩
    rintro d v H1 ⟨u, rfl, w1⟩ r1 e1 o1
    cases r1
    obtain ⟨va, hv1, hv2⟩ := r.get hi
    cases hv2
    obtain ⟨xs, hx, hix, e2, o2⟩ := pot_put (u := u) hp o1 hk
    exact ⟨_, hv1, a, xs, (k : Int), k, rfl, rfl, hx, hix, f.nx ρ _ _ w1 (r.mono (e1.trans e2)) (e1.trans e2) o2⟩
/-- pot[k], x = a pair of ints -/
def sPotUnp (a : Addr) (i j : Nat) (t : TDE) : TDS := fun e ρ => ρ[i]? = some (some (.ptr a)) ∧ t ρ fun d => ∃ x y : Int, d = .tup [.int x, .int y] ∧ e.nx (ρ.set j (some (.int y)))
theorem s_potUnp {a : Addr} {i j0 : Nat} {x y : Str} {k : Nat} {j : Nat} {p1 p2 p3 p4 p5 : Pos} {k5 : Nat} {e : Expr} {t : TDE} (nd : X.N.Nodup) (hc : X.calm = true) (hp : PotAt a R) (hk : k < 3) (he : EE X R e t) (hij : i ≠ j0) (hN : X.N[i]? = some x := by rfl) (hy : X.N[j0]? = some y := by rfl)
    (hv : Vis X.env.scope x := by first | exact Or.inl rfl | exact Or.inr (Or.inl rfl) | exact Or.inr (Or.inr rfl)) (hly : Loc X.env.scope y := by first | exact Or.inl rfl | exact Or.inr rfl) (hfy : X.fn y = true ∨ X.env.scope.names.lookup y = some .local := by first | exact .inl rfl | exact .inr rfl)
    (hd : (x == ("__debug__" : Str)) = false := by decide) (hcd : (x == ("__classdict__" : Str)) = false := by decide)
    (ha : ∀ v, assign (.Subscript (.Name x p1) (.Constant (.int (k : Int)) j p2) p3) X.env v = (do
      let ov ← holding [v] (eval (.Name x p1) X.env)
      let iv ← holding [v, ov] (eval (.Constant (.int (k : Int)) j p2) X.env)
      standAt p3
      holding [v, ov, iv] (setItem ov iv v)
      release [v, ov, iv] []) := by intro _; rfl)
    (hn : (assignEach [.Subscript (.Name x p1) (.Constant (.int (k : Int)) j p2) p3, .Name y p4] X.env).length = 2 := by rfl) (hst : (assignEach [.Subscript (.Name x p1) (.Constant (.int (k : Int)) j p2) p3, .Name y p4] X.env).findIdx? (·.1) = none := by rfl)
    (hq1 : (assignEach [.Subscript (.Name x p1) (.Constant (.int (k : Int)) j p2) p3, .Name y p4] X.env).map (·.2) = assign (.Subscript (.Name x p1) (.Constant (.int (k : Int)) j p2) p3) X.env :: (assignEach [.Name y p4] X.env).map (·.2) := by rfl)
    (hq2 : (assignEach [.Name y p4] X.env).map (·.2) = assign (.Name y p4) X.env :: (assignEach [] X.env).map (·.2) := by rfl)
    (hs : swapsWithSole [.Tuple [.Subscript (.Name x p1) (.Constant (.int (k : Int)) j p2) p3, .Name y p4] k5 p5] e pos.line X.env = pure false := by rfl) (hw : swappedStores [.Tuple [.Subscript (.Name x p1) (.Constant (.int (k : Int)) j p2) p3, .Name y p4] k5 p5] e X.env = pure none := by rfl)
    (h1 : (assignEach [.Tuple [.Subscript (.Name x p1) (.Constant (.int (k : Int)) j p2) p3, .Name y p4] k5 p5] X.env).map (·.2) = [assign (.Tuple [.Subscript (.Name x p1) (.Constant (.int (k : Int)) j p2) p3, .Name y p4] k5 p5) X.env] := by rfl) :
    ES X R (.Assign [.Tuple [.Subscript (.Name x p1) (.Constant (.int (k : Int)) j p2) p3, .Name y p4] k5 p5] e pos) (sPotUnp a i j0 t) :=
  PS_imp (ps_asg he (pg_tup hc (pgs_cons (pg_sub (pe_var hN hv hd hcd) pe_int set_list ha) (pgs_cons (pg_name nd hy hly hfy) pgs_nil hq2) hq1) hn hst) hs hw h1) fun E σ H ⟨ρ, en, r, o, ⟨hi, w⟩, f⟩ => by
    refine ⟨ρ, _, r, o, w, ?_⟩
    rintro d v H1 ⟨u, z, rfl, w1⟩ r1 e1 o1
    cases r1 with
    | tup h ra =>
      obtain ⟨v1, v2, rfl, rv1, rv2⟩ := ra.two
      cases rv1; cases rv2
      obtain ⟨va, hv1, hv2⟩ := r.get hi
      cases hv2
      obtain ⟨xs, hx, hix, e2, o2⟩ := pot_put (u := u) hp o1 hk
      exact ⟨_, _, rfl, h.sq, rfl, _, _, rfl, ⟨_, hv1, a, xs, (k : Int), k, rfl, rfl, hx, hix, _, _, rfl, rfl, f.nx _ _ _ w1 ((r.mono (e1.trans e2)).set (.int z) j0) (e1.trans e2) o2⟩⟩
/-! ## divmod -/
def divmodC : DCall := fun ds q => ∃ i j, ds = [.int i, .int j] ∧ CDiv i j ∧ q (.tup [.int (i / j), .int (i % j)])
theorem cd_divmod {K} : CallD K R (fun xs H Q => ∃ i j, xs = [.int i, .int j] ∧ CDiv i j ∧ ∀ p, H p = none → Q (.ref p) (upd H p (.tup [.int (i / j), .int (i % j)]))) divmodC := by
  rintro xs ds H q Q r o ⟨i, j, rfl, hc, w⟩ f
  obtain ⟨x, y, rfl, rx, ry⟩ := r.two
  cases rx; cases ry
  exact ⟨i, j, rfl, hc, fun a n => f _ _ _ w (new_tup (.cons (.int _) (.cons (.int _) .nil)) n o) (Ext.new n) (o.new n)⟩

/-! ## {'k': v, ..}.get(w, d) -/
/-- the values, one after another -/
def vVals : List TDE → DE → (List D → Prop) → Prop
  | [], _, q => q []
  | t :: ts, ρ, q => t ρ fun d => vVals ts ρ fun ds => q (d :: ds)
def keysOf (ks : List Str) (vs : List V) : List (Key × V) := (ks.map Sum.inr).zip vs
def getD' (ks : List Str) (ds : List D) (z : Str) (dd : D) : D := (((ks.zip ds).find? fun kv => decide (kv.1 = z)).map (·.2)).getD dd
def vGet (ks : List Str) (ts : List TDE) (tw td : TDE) : TDE := fun ρ q => vVals ts ρ fun ds => tw ρ fun w => td ρ fun dd => ∃ z, w = .str z ∧ q (getD' ks ds z dd)
def trsOf (K : PySem.W.Frag) (R : Res) (ks : List Str) (ts : List TDE) : List (TE × TE) := (ks.zip ts).map fun kt => (tC (.str kt.1), tEl K R kt.2)
theorem pairs_ok {K : PySem.W.Frag} {A : Addr} : ∀ (ks : List Str) (ts : List TDE) (σ : L2.St) (ρ : DE) (H : Hp) (q : List D → Prop) (Q : List (V × V) → Hp → Prop), ks.length = ts.length → REnv K (R.add A).av H σ ρ → Pot (R.add A) H → vVals ts ρ q →
    (∀ ds vs H', q ds → RepAll K (R.add A).av H' vs ds → ds.length = ks.length → Ext R.p H H' → Pot (R.add A) H' → Q ((ks.map V.str).zip vs) H') → tPairs (trsOf K R ks ts) σ H Q
  | [], [], σ, ρ, H, q, Q, _, hr, ho, w, f => f [] [] H w .nil rfl (Ext.refl _ _) ho
  | [], _ :: _, _, _, _, _, _, hl, _, _, _, _ => by cases hl
  | _ :: _, [], _, _, _, _, _, hl, _, _, _, _ => by cases hl
  | k :: ks, t :: ts, σ, ρ, H, q, Q, hl, hr, ho, w, f => by
    show tC (.str k) σ H fun x H1 => tEl K R t σ H1 fun y H2 => tPairs (trsOf K R ks ts) σ H2 fun ps H3 => Q ((x, y) :: ps) H3
    refine ⟨A, ρ, _, hr, ho, w, fun d v H1 w1 r1 e1 o1 => ?_⟩
    refine pairs_ok ks ts σ ρ H1 _ _ (by simpa using hl) (hr.mono (R := R.add A) e1) o1 w1 fun ds vs H2 w2 r2 hl2 e2 o2 => ?_
    exact f (d :: ds) (v :: vs) H2 w2 (.cons (r1.mono (R := R.add A) e2) r2) (by simp [hl2]) (e1.trans e2) o2
theorem putK_fresh {kvs : List (Key × V)} {k : Key} {v : V} (h : ∀ kv ∈ kvs, kv.1 ≠ k) : putK kvs k v = kvs ++ [(k, v)] := by
  unfold putK
  have : kvs.any (fun kv => decide (kv.1 = k)) = false := by
    rw [List.any_eq_false]
    intro kv hkv
    simpa using h kv hkv
  simp [this]
theorem merge_nodup : ∀ (more kvs : List (Key × V)), ((kvs ++ more).map (·.1)).Nodup → mergeK kvs more = kvs ++ more
  | [], kvs, _ => by simp [mergeK]
  | kv :: more, kvs, h => by
    have h1 : ∀ x ∈ kvs, x.1 ≠ kv.1 := fun x hx e => by
      rw [List.map_append, List.map_cons] at h
      exact (List.nodup_append.mp h).2.2 x.1 (List.mem_map_of_mem hx) kv.1 List.mem_cons_self e
    show mergeK (putK kvs kv.1 kv.2) more = _
    rw [putK_fresh h1, merge_nodup more (kvs ++ [(kv.1, kv.2)]) (by simpa using h)]
    simp
theorem val_rep {K : PySem.W.Frag} {q : List Addr} {H : Hp} {z : Str} : ∀ (ks : List Str) (vs : List V) (ds : List D), RepAll K q H vs ds → ks.length = ds.length →
    (valV (keysOf ks vs) (.inr z) = none ∧ ((ks.zip ds).find? fun kv => decide (kv.1 = z)) = none) ∨ ∃ v d k, valV (keysOf ks vs) (.inr z) = some v ∧ ((ks.zip ds).find? fun kv => decide (kv.1 = z)) = some (k, d) ∧ Rep K q H v d
  | [], _, _, _, _ => .inl ⟨rfl, rfl⟩
  | k :: ks, _, _, .nil, hl => by cases hl
  | k :: ks, v :: vs, d :: ds, .cons r t, hl => by
    by_cases e : k = z
    · subst e
      refine .inr ⟨v, d, k, ?_, ?_, r⟩
      · simp [valV, keysOf]
      · simp
    · have e' : ¬ (Sum.inr k : Key) = Sum.inr z := fun q => e (Sum.inr.inj q)
      have h1 : valV (keysOf (k :: ks) (v :: vs)) (.inr z) = valV (keysOf ks vs) (.inr z) := by simp [valV, keysOf, e']
      have h2 : (((k :: ks).zip (d :: ds)).find? fun kv => decide (kv.1 = z)) = ((ks.zip ds).find? fun kv => decide (kv.1 = z)) := by simp [e]
      rw [h1, h2]
      exact val_rep ks vs ds t (by simpa using hl)
theorem d_get {keys : List (Option Expr)} {values : List Expr} {e f : Expr} {apos cpos dpos : Pos} {ks : List Str} {ts : List TDE} {tw td : TDE} (hu : X.A.units + 1 < cLine)
    (hp : PPs X dpos keys values (trsOf X.K R ks ts)) (hall : keys.all (·.isSome) = true) (hlk : keys.length = values.length) (h0 : keys ≠ []) (h15 : keys.length ≤ 15) (hks : ks.Nodup) (hkt : ks.length = ts.length) (h15' : ks.length ≤ 15)
    (he : EE X R e tw) (hf : EE X R f td) (m : M2 X (.Dict keys values dpos) "get" apos e f cpos) : EE X R (.Call (.Attribute (.Dict keys values dpos) "get" apos) [e, f] [] cpos) (vGet ks ts tw td) :=
  PE_imp (pe_dget2 hu (pe_disp hp hall hlk h0 h15) he hf m) fun σ H Q ⟨ρ, q, r, o, w, fi⟩ => fun A nA => by
    have rS : REnv X.K (R.add A).av (upd H A (.dK [])) σ ρ := (r.strong nA).mono0 (Ext.new nA)
    have nav := Pot.nin (R := R) o nA
    have oA : Pot (R.add A) (upd H A (.dK [])) := Pot.add (o.new nA) (fun m => nav (List.mem_append_left _ m)) (by rw [upd_same]; exact fun z => nomatch z)
    refine pairs_ok ks ts σ ρ _ _ _ hkt rS oA w fun ds vs H1 w1 r1 hl1 e1 o1 => ?_
    have hA : H1 A = some (.dK []) := e1 A _ (fun mm => nav (List.mem_append_left _ mm)) upd_same
    have eH1 : Ext R.p H H1 := fun b u nb hb => e1 b u nb (by rw [upd_ne (ne_of_none hb nA)]; exact hb)
    have hlv : vs.length = ks.length := by rw [r1.length]; exact hl1
    have hmerge : mergeK [] (keysOf ks vs) = keysOf ks vs := by
      rw [merge_nodup _ _ ?_, List.nil_append]
      rw [List.nil_append]
      have : (keysOf ks vs).map (·.1) = ks.map Sum.inr := by
        unfold keysOf
        rw [List.map_fst_zip (by simp [hlv])]
      rw [this]
      unfold List.Nodup at hks ⊢
      rw [List.pairwise_map]
      exact hks.imp fun h e => h (Sum.inr.inj e)
    refine ⟨hA, keysOf ks vs, ?_, ?_, ?_⟩
    · unfold keysOf
      rw [List.zip_map_left, List.zip_map_left, List.map_map]
      rfl
    · unfold keysOf
      rw [List.length_zip, List.length_map]
      omega
    · rw [hmerge]
      have e2 : Ext R.p H (upd H1 A (.dK (keysOf ks vs))) := fun b u nb hb => by
        rw [upd_ne (ne_of_none hb nA)]
        exact eH1 b u nb hb
      have o2 : Pot R (upd H1 A (.dK (keysOf ks vs))) := Pot.mix o e2 (Pot.of_add o1) (fun b mm => upd_ne (fun e => nav (e ▸ List.mem_append_left _ mm)))
      have r2 : RepAll X.K (R.add A).av (upd H1 A (.dK (keysOf ks vs))) vs ds := RepAll.mono0 (Ext.put Res.add_mem) r1
      refine ⟨A, rfl, .inl ⟨_, .inl upd_same⟩, ρ, _, r.mono e2, o2, w1, fun dw wv H3 w3 r3 e3 o3 => ?_⟩
      refine ⟨ρ, _, r.mono (e2.trans e3), o3, w3, ?_⟩
      rintro dd x H4 ⟨z, rfl, w4⟩ r4 e4 o4
      cases r3
      have e5 : Ext R.p (upd H1 A (.dK (keysOf ks vs))) H4 := e3.trans e4
      have h4 : H4 A = some (.dK (keysOf ks vs)) := e5 A _ (fun mm => nav (List.mem_append_left _ mm)) upd_same
      have r5 : RepAll X.K R.av H4 vs ds := RepAll.mono (R := R) (RepAll.weak (fun b hb => Res.add_av hb) r2) e5
      refine ⟨_, DGet.k (k := .inr z) h4, ?_⟩
      rcases val_rep (z := z) ks vs ds r5 hl1.symm with ⟨q1, q2⟩ | ⟨v, d, k, q1, q2, rv⟩
      · rw [q1]
        refine fi _ _ H4 w4 ?_ ((e2.trans e3).trans e4) o4
        show Rep X.K R.av H4 x (getD' ks ds z dd)
        unfold getD'
        rw [q2]
        exact r4
      · rw [q1]
        refine fi _ _ H4 w4 ?_ ((e2.trans e3).trans e4) o4
        show Rep X.K R.av H4 v (getD' ks ds z dd)
        unfold getD'
        rw [q2]
        exact rv
theorem pe_el {e : Expr} {t : TDE} (h : ∀ A, EE X (R.add A) e t) : PE X e (tEl X.K R t) := ⟨fun pins s σ H Q I ⟨A, w⟩ => (h A).run pins s σ H Q I w⟩
/-! ## constants of the module -/
def GInt (mg : Str → Option Value) (x : Str) (i : Int) : Prop := ∃ t, mg x = some (.int i t)
def GStr (mg : Str → Option Value) (x : Str) (i : Str) : Prop := ∃ t, mg x = some (.str i t)
def GTup (K : PySem.W.Frag) (mg : Str → Option Value) (x : Str) (zs : List Str) : Prop := ∃ (a : Addr) (o : Obj) (its : Array Value) (n : Nat), mg x = some (.ref a) ∧ K.lookup a = some o ∧ o.cls = .type "tuple" ∧ o.data = .seq its n ∧ its.size ≤ sizeLine ∧ Vals (zs.map V.str) its.toList
theorem d_gintT {x : Str} {i : Int} {pos : Pos} (h : GInt X.mg x i) (hg : Gl X x := by rfl) (hd : (x == ("__debug__" : Str)) = false := by decide) : EE X R (.Name x pos) (vC (.int i)) := by
  obtain ⟨t, hm⟩ := h
  exact d_gint hm hg hd
theorem d_gstrT {x : Str} {i : Str} {pos : Pos} (h : GStr X.mg x i) (hg : Gl X x := by rfl) (hd : (x == ("__debug__" : Str)) = false := by decide) : EE X R (.Name x pos) (vC (.str i)) := by
  obtain ⟨t, hm⟩ := h
  exact d_gstr hm hg hd
theorem d_gtupT {x : Str} {zs : List Str} {pos : Pos} (h : GTup X.K X.mg x zs) (hg : Gl X x := by rfl) (hd : (x == ("__debug__" : Str)) = false := by decide) : EE X R (.Name x pos) (vC (.tup (zs.map .str))) := by
  obtain ⟨a, o, its, n, hm, hk, hc, hda, hz, hv⟩ := h
  exact d_gtup hm hk hc hda hz hv hg hd
end
theorem eqD_ty {d : D} {n : String} (h : isObjD d = true) (hn : n ∈ knownTy) : eqD (.ty (kindD d)) (.ty n) = some (decide (kindD d = n)) := by
  show (if kindD d ∈ knownTy ∧ n ∈ knownTy then _ else _) = _
  rw [if_pos ⟨kind_known d h, hn⟩]
theorem neD_ty {d : D} {n : String} (h : isObjD d = true) (hn : n ∈ knownTy) : neD (.ty (kindD d)) (.ty n) = some (!decide (kindD d = n)) := by
  show (if kindD d ∈ knownTy ∧ n ∈ knownTy then _ else _) = _
  rw [if_pos ⟨kind_known d h, hn⟩]
theorem kind_int {d : D} (h : isObjD d = true) (e : kindD d = "int") : ∃ i, d = .int i := by
  cases d <;> first | exact ⟨_, rfl⟩ | (simp [kindD] at e; done) | cases h
theorem kind_bool {d : D} (h : isObjD d = true) (e : kindD d = "bool") : ∃ i, d = .bl i := by
  cases d <;> first | exact ⟨_, rfl⟩ | (simp [kindD] at e; done) | cases h
theorem kind_str {d : D} (h : isObjD d = true) (e : kindD d = "str") : ∃ i, d = .str i := by
  cases d <;> first | exact ⟨_, rfl⟩ | (simp [kindD] at e; done) | cases h
theorem kind_tuple {d : D} (h : isObjD d = true) (e : kindD d = "tuple") : ∃ i, d = .tup i := by
  cases d <;> first | exact ⟨_, rfl⟩ | (simp [kindD] at e; done) | cases h
/-- all([.. for c in x]), the answers g -/
theorem all_lc {i : Nat} {te : TDE} {ρ : DE} {q : D → Prop} {x : Str} {g : Nat → Bool} (hz : x.length ≤ sizeLine) (hel : ∀ c ∈ x.cps.toList, te (ρ.set i (some (.str ⟨#[c]⟩))) fun d => d = .bl (g c)) (h : q (.bl (x.cps.toList.all g))) :
    (x.cps.toList.map fun c => D.str ⟨#[c]⟩).length ≤ sizeLine ∧ ∃ Pj : Nat → D → Prop, (∀ j d, (x.cps.toList.map fun c => D.str ⟨#[c]⟩)[j]? = some d → te (ρ.set i (some d)) (Pj j)) ∧
      ∀ es : List D, es.length = (x.cps.toList.map fun c => D.str ⟨#[c]⟩).length → (∀ (j : Nat) (e : D), es[j]? = some e → Pj j e) → allC [.seq es] q := by
  refine ⟨by rw [List.length_map]; exact hz, fun j d => ∀ c, x.cps.toList[j]? = some c → d = .bl (g c), fun j d hj => ?_, fun es hl hP => ?_⟩
  · rw [List.getElem?_map] at hj
    cases hc : x.cps.toList[j]? with
    | none => rw [hc] at hj; cases hj
    | some c =>
      rw [hc] at hj
      cases hj
      have e : (fun d => ∀ c', x.cps.toList[j]? = some c' → d = D.bl (g c')) = fun d => d = D.bl (g c) := by
        funext d
        apply propext
        constructor
        · exact fun h => h c hc
        · intro h c' e
          rw [hc] at e
          cases e
          exact h
      show te (ρ.set i (some (.str ⟨#[c]⟩))) (fun d => ∀ c', x.cps.toList[j]? = some c' → d = D.bl (g c'))
      rw [e]
      exact hel c (List.mem_of_getElem? hc)
  · refine ⟨_, x.cps.toList.map g, rfl, .inr (congrArg D.seq ?_), by rw [List.all_map]; exact h⟩
    rw [List.length_map] at hl
    rw [List.map_map]
    apply List.ext_getElem?
    intro j
    rw [List.getElem?_map]
    cases he : es[j]? with
    | none =>
      have : es.length ≤ j := List.getElem?_eq_none_iff.mp he
      rw [List.getElem?_eq_none (by omega)]
      rfl
    | some e =>
      have hj : j < es.length := (List.getElem?_eq_some_iff.mp he).1
      have hc : x.cps.toList[j]? = some (x.cps.toList[j]'(by omega)) := List.getElem?_eq_getElem _
      rw [hP j e he _ hc, hc]
      rfl
end Dl

set_option Elab.async false
set_option linter.all false
set_option maxRecDepth 100000
set_option maxHeartbeats 4000000
namespace Dl
open PySem PySem.Spec PyProof.Rows L2
/-! ## how much there is of data: what its operations do to it -/
mutual
/-- the greatest int -/
def D.mx : D → Nat
  | .int i => i.natAbs
  | .tup xs => D.mxs xs
  | .lst xs => D.mxs xs
  | _ => 0
def D.mxs : List D → Nat
  | [] => 0
  | x :: xs => max (D.mx x) (D.mxs xs)
end
theorem plains_append : ∀ a b : List D, D.plains (a ++ b) = (D.plains a && D.plains b)
  | [], b => by simp only [List.nil_append, D.plains, Bool.true_and]
  | x :: a, b => by simp only [List.cons_append, D.plains]; rw [plains_append a b, Bool.and_assoc]
theorem szs_append : ∀ a b : List D, D.szs (a ++ b) = D.szs a + D.szs b
  | [], b => by simp only [List.nil_append, D.szs]; omega
  | x :: a, b => by simp only [List.cons_append, D.szs]; rw [szs_append a b]; omega
theorem dps_append : ∀ a b : List D, D.dps (a ++ b) = max (D.dps a) (D.dps b)
  | [], b => by simp only [List.nil_append, D.dps]; omega
  | x :: a, b => by simp only [List.cons_append, D.dps]; rw [dps_append a b]; omega
theorem mxs_append : ∀ a b : List D, D.mxs (a ++ b) = max (D.mxs a) (D.mxs b)
  | [], b => by simp only [List.nil_append, D.mxs]; omega
  | x :: a, b => by simp only [List.cons_append, D.mxs]; rw [mxs_append a b]; omega
theorem plains_reverse : ∀ a : List D, D.plains a.reverse = D.plains a
  | [] => rfl
  | x :: a => by rw [List.reverse_cons, plains_append, plains_reverse a]; simp only [D.plains, Bool.and_true]; rw [Bool.and_comm]
theorem szs_reverse : ∀ a : List D, D.szs a.reverse = D.szs a
  | [] => rfl
  | x :: a => by rw [List.reverse_cons, szs_append, szs_reverse a]; simp only [D.szs]; omega
theorem dps_reverse : ∀ a : List D, D.dps a.reverse = D.dps a
  | [] => rfl
  | x :: a => by rw [List.reverse_cons, dps_append, dps_reverse a]; simp only [D.dps]; omega
theorem mxs_reverse : ∀ a : List D, D.mxs a.reverse = D.mxs a
  | [] => rfl
  | x :: a => by rw [List.reverse_cons, mxs_append, mxs_reverse a]; simp only [D.mxs]; omega
/-- plain data within bounds: of its size, its depth, its ints -/
structure Bd (s t u : Nat) (d : D) : Prop where
  pl : d.plain = true
  sz : d.sz ≤ s
  dp : d.dp ≤ t
  mx : d.mx ≤ u
theorem Bd.mono {s t u s' t' u' : Nat} {d : D} (h : Bd s t u d) (hs : s ≤ s') (ht : t ≤ t') (hu : u ≤ u') : Bd s' t' u' d := ⟨h.pl, Nat.le_trans h.sz hs, Nat.le_trans h.dp ht, Nat.le_trans h.mx hu⟩
/-- the same of a list's items -/
structure Bds (s t u : Nat) (ds : List D) : Prop where
  pl : D.plains ds = true
  sz : D.szs ds ≤ s
  dp : D.dps ds ≤ t
  mx : D.mxs ds ≤ u
theorem Bds.mono {s t u s' t' u' : Nat} {d : List D} (h : Bds s t u d) (hs : s ≤ s') (ht : t ≤ t') (hu : u ≤ u') : Bds s' t' u' d := ⟨h.pl, Nat.le_trans h.sz hs, Nat.le_trans h.dp ht, Nat.le_trans h.mx hu⟩
theorem Bds.nil {s t u : Nat} : Bds s t u [] := ⟨rfl, Nat.zero_le _, Nat.zero_le _, Nat.zero_le _⟩
theorem Bds.cons {s s1 s2 t u : Nat} {d : D} {ds : List D} (h : Bd s1 t u d) (hs : Bds s2 t u ds) (e : s1 + 1 + s2 ≤ s) : Bds s t u (d :: ds) := by
  refine ⟨?_, ?_, ?_, ?_⟩
  · simp only [D.plains, h.pl, hs.pl, Bool.and_self]
  · have := h.sz; have := hs.sz; simp only [D.szs]; omega
  · have := h.dp; have := hs.dp; simp only [D.dps]; omega
  · have := h.mx; have := hs.mx; simp only [D.mxs]; omega
theorem Bds.append {s1 s2 t u : Nat} {a b : List D} (ha : Bds s1 t u a) (hb : Bds s2 t u b) : Bds (s1 + s2) t u (a ++ b) := by
  refine ⟨by rw [plains_append, ha.pl, hb.pl]; rfl, ?_, ?_, ?_⟩
  · have := ha.sz; have := hb.sz; rw [szs_append]; omega
  · have := ha.dp; have := hb.dp; rw [dps_append]; omega
  · have := ha.mx; have := hb.mx; rw [mxs_append]; omega
theorem Bds.reverse {s t u : Nat} {a : List D} (h : Bds s t u a) : Bds s t u a.reverse := ⟨by rw [plains_reverse]; exact h.pl, by rw [szs_reverse]; exact h.sz, by rw [dps_reverse]; exact h.dp, by rw [mxs_reverse]; exact h.mx⟩
theorem Bds.tup {s t u : Nat} {a : List D} (h : Bds s t u a) : Bd (s + 1) (t + 1) u (.tup a) := by
  refine ⟨by simp only [D.plain]; exact h.pl, ?_, ?_, ?_⟩
  · have := h.sz; simp only [D.sz]; omega
  · have := h.dp; simp only [D.dp]; omega
  · have := h.mx; simp only [D.mx]; omega
theorem Bds.lst {s t u : Nat} {a : List D} (h : Bds s t u a) : Bd (s + 1) (t + 1) u (.lst a) := by
  refine ⟨by simp only [D.plain]; exact h.pl, ?_, ?_, ?_⟩
  · have := h.sz; simp only [D.sz]; omega
  · have := h.dp; simp only [D.dp]; omega
  · have := h.mx; simp only [D.mx]; omega
/-- the parts of a tuple -/
theorem Bd.parts {s t u : Nat} {a : List D} (h : Bd s t u (.tup a)) : Bds (s - 1) (t - 1) u a ∧ 1 ≤ s ∧ 1 ≤ t := by
  have h1 := h.pl; have h2 := h.sz; have h3 := h.dp; have h4 := h.mx
  simp only [D.plain] at h1
  simp only [D.sz] at h2
  simp only [D.dp] at h3
  simp only [D.mx] at h4
  exact ⟨⟨h1, by omega, by omega, by omega⟩, by omega, by omega⟩
theorem Bds.get : ∀ {ds : List D} {s t u k : Nat} {d : D}, Bds s t u ds → ds[k]? = some d → Bd d.sz d.dp d.mx d ∧ d.dp ≤ t ∧ d.mx ≤ u ∧ D.szs (ds.take k) + (d.sz + 1) + D.szs (ds.drop (k + 1)) ≤ s ∧ Bds (D.szs (ds.take k)) t u (ds.take k) ∧ Bds (D.szs (ds.drop (k + 1))) t u (ds.drop (k + 1))
  | [], _, _, _, _, _, _, e => by simp at e
  | x :: ds, s, t, u, 0, d, h, e => by
    have e' : x = d := by simpa using e
    subst e'
    have h1 := h.pl; have h2 := h.sz; have h3 := h.dp; have h4 := h.mx
    simp only [D.plains, Bool.and_eq_true] at h1
    simp only [D.szs] at h2
    simp only [D.dps] at h3
    simp only [D.mxs] at h4
    refine ⟨⟨h1.1, Nat.le_refl _, Nat.le_refl _, Nat.le_refl _⟩, by omega, by omega, ?_, Bds.nil, ?_⟩
    · simp only [List.take_zero, List.drop_succ_cons, List.drop_zero, D.szs]; omega
    · simp only [List.drop_succ_cons, List.drop_zero]; exact ⟨h1.2, Nat.le_refl _, by omega, by omega⟩
  | x :: ds, s, t, u, k + 1, d, h, e => by
    have e' : ds[k]? = some d := by simpa using e
    have h1 := h.pl; have h2 := h.sz; have h3 := h.dp; have h4 := h.mx
    simp only [D.plains, Bool.and_eq_true] at h1
    simp only [D.szs] at h2
    simp only [D.dps] at h3
    simp only [D.mxs] at h4
    obtain ⟨a1, a2, a3, a4, a5, a6⟩ := Bds.get (s := D.szs ds) (t := t) (u := u) ⟨h1.2, Nat.le_refl _, by omega, by omega⟩ e'
    refine ⟨a1, a2, a3, ?_, ?_, ?_⟩
    · simp only [List.take_succ_cons, List.drop_succ_cons, D.szs]; omega
    · simp only [List.take_succ_cons]
      refine Bds.cons (s1 := x.sz) ⟨h1.1, Nat.le_refl _, by omega, by omega⟩ a5 ?_
      simp only [D.szs]; omega
    · simp only [List.drop_succ_cons]; exact a6
theorem Bd.non {s t u : Nat} (h : 1 ≤ s) : Bd s t u .non := ⟨rfl, h, Nat.zero_le _, Nat.zero_le _⟩
theorem Bd.bl {s t u : Nat} {b : Bool} (h : 1 ≤ s) : Bd s t u (.bl b) := ⟨rfl, h, Nat.zero_le _, Nat.zero_le _⟩
theorem Bd.int {s t u : Nat} {i : Int} (h : 1 ≤ s) (hi : i.natAbs ≤ u) (hu : u < 10 ^ 12) : Bd s t u (.int i) := ⟨by simp only [D.plain, decide_eq_true_eq]; omega, h, Nat.zero_le _, hi⟩
theorem Bd.emp {s t u : Nat} (h : 1 ≤ s) (ht : 1 ≤ t) : Bd s t u .emp := ⟨rfl, h, ht, Nat.zero_le _⟩
def asc (x : Str) : Prop := ∀ c ∈ x.cps.toList, c < 128
theorem Bd.str {s t u : Nat} {x : Str} (h : x.length + 1 ≤ s) (ha : asc x) : Bd s t u (.str x) := ⟨by simp only [D.plain, List.all_eq_true, decide_eq_true_eq]; exact ha, h, Nat.zero_le _, Nat.zero_le _⟩
theorem Bd.asc {s t u : Nat} {x : Str} (h : Bd s t u (.str x)) : asc x := by
  have := h.pl
  simp only [D.plain, List.all_eq_true, decide_eq_true_eq] at this
  exact this
theorem Bd.len {s t u : Nat} {x : Str} (h : Bd s t u (.str x)) : x.length + 1 ≤ s := h.sz
theorem asc_append {x y : Str} (hx : asc x) (hy : asc y) : asc (x ++ y) := fun c hc => by
  have e : (x ++ y).cps.toList = x.cps.toList ++ y.cps.toList := by show (x.cps ++ y.cps).toList = _; simp
  rw [e] at hc
  rcases List.mem_append.mp hc with h | h
  · exact hx c h
  · exact hy c h
theorem asc_cut {x : Str} (hx : asc x) (lo hi : Option Int) : asc (cutS x lo hi) := fun c hc => by
  have hc' : c ∈ (x.cps.toList.drop (HT.sIx x.length 0 lo)).take (HT.sIx x.length x.length hi - HT.sIx x.length 0 lo) := by simpa [cutS] using hc
  exact hx c (List.mem_of_mem_drop (List.mem_of_mem_take hc'))
theorem asc_upper {x : Str} (hx : asc x) : asc (Txt.upper x) ∧ (Txt.upper x).length = x.length := by
  have e := PyProof.Rows.upper_ascii hx
  rw [e]
  refine ⟨fun c hc => ?_, by show (x.cps.map up1).size = x.cps.size; simp⟩
  have hc' : c ∈ x.cps.toList.map up1 := by simpa using hc
  obtain ⟨a, ha, rfl⟩ := List.mem_map.mp hc'
  have := hx a ha
  unfold up1
  split <;> omega
theorem asc_one {c : Nat} (h : c < 128) : asc ⟨#[c]⟩ := fun d hd => by
  have : d = c := by simpa using hd
  omega
/-- an item at a drawn place -/
theorem atI_mem {ds : List D} {k : Int} (h0 : 0 ≤ k) (h1 : k < ds.length) : ∃ d, atI ds k = some d ∧ d ∈ ds := by
  obtain ⟨n, rfl⟩ : ∃ n : Nat, k = (n : Int) := ⟨k.toNat, by omega⟩
  have hn : n < ds.length := by omega
  exact ⟨ds[n], atI_nat (List.getElem?_eq_getElem hn), List.getElem_mem hn⟩
theorem atI_place {α : Type} {ds : List α} {k : Int} (h0 : 0 ≤ k) (h1 : k < ds.length) : ∃ (n : Nat) (d : α), k = (n : Int) ∧ n < ds.length ∧ atI ds k = some d ∧ ds[n]? = some d := by
  obtain ⟨n, rfl⟩ : ∃ n : Nat, k = (n : Int) := ⟨k.toNat, by omega⟩
  have hn : n < ds.length := by omega
  exact ⟨n, ds[n], rfl, hn, atI_nat (List.getElem?_eq_getElem hn), List.getElem?_eq_getElem hn⟩
theorem cutD_to (ds : List D) (n : Nat) : Dl.cutD ds none (some (n : Int)) = ds.take n := by
  show (ds.drop 0).take (HT.sIx ds.length ds.length (some (n : Int)) - 0) = _
  rw [HT.sIx_nat, List.drop_zero, Nat.sub_zero]
  by_cases h : n ≤ ds.length
  · rw [Nat.min_eq_left h]
  · rw [Nat.min_eq_right (by omega), List.take_of_length_le (Nat.le_refl _), List.take_of_length_le (by omega)]
theorem cutD_from (ds : List D) (n : Nat) : Dl.cutD ds (some (n : Int)) none = ds.drop n := by
  show (ds.drop (HT.sIx ds.length 0 (some (n : Int)))).take (ds.length - HT.sIx ds.length 0 (some (n : Int))) = _
  rw [HT.sIx_nat]
  by_cases h : n ≤ ds.length
  · rw [Nat.min_eq_left h, List.take_of_length_le (by rw [List.length_drop]; exact Nat.le_refl _)]
  · rw [Nat.min_eq_right (by omega), List.drop_of_length_le (Nat.le_refl _), List.drop_of_length_le (l := ds) (by omega)]
    simp
end Dl

set_option Elab.async false
set_option linter.all false
set_option maxRecDepth 100000
set_option maxHeartbeats 4000000
namespace Dl
open PySem PySem.Spec PyProof.Rows L2
/-! ## the script: a list of ints that nothing changes -/
def ScrAt (K : PySem.W.Frag) (a : Addr) (ns : List Int) (R : Res) : Prop := ∀ H, R.S H → SqL K H a (ns.map V.int)
theorem ScrAt.add {K : PySem.W.Frag} {a A : Addr} {ns : List Int} {R : Res} (h : ScrAt K a ns R) : ScrAt K a ns (R.add A) := fun H s => h H (Pot.of_add s)
/-- the one list at a -/
def Res.scr (a : Addr) (xs : List V) : Res where
  p := []
  n := [a]
  Sp := fun _ => True
  Ss := fun H => Rd H a (.lst xs)
  nin := fun H b _ s n m => by
    have e : b = a := by simpa using m
    subst e
    rcases s with s | ⟨o, s⟩ <;> (rw [n] at s; cases s)
  dep := fun _ _ _ _ => trivial
  mono := fun H H' k s => by
    rcases s with s | ⟨o, s⟩
    · exact .inl (k _ _ (by simp) s)
    · exact .inr ⟨o, k _ _ (by simp) s⟩
theorem scr_ex {K : PySem.W.Frag} {H : Hp} {a : Addr} {ns : List Int} (h : SqL K H a (ns.map V.int)) : ∃ R : Res, R.p = [] ∧ R.S H ∧ ScrAt K a ns R := by
  rcases h with h | h
  · exact ⟨Res.scr a (ns.map V.int), rfl, ⟨trivial, h⟩, fun H s => .inl s.2⟩
  · exact ⟨Res.none, rfl, ⟨trivial, trivial⟩, fun H s => .inr h⟩
section
variable {X : Cx} {R : Res} {pos : Pos} {a : Addr} {ns : List Int}
def lenS (a : Addr) (ns : List Int) : DCall := fun ds q => ds = [.ptr a] ∧ q (.int ns.length)
theorem cd_lenS (S : ScrAt X.K a ns R) : CallD X.K R (fun xs H Q => ∃ x n, xs = [x] ∧ LenV X.K x H n ∧ Q (.int n) H) (lenS a ns) := by
  rintro xs ds H q Q r o ⟨rfl, w⟩ f
  obtain ⟨x, rfl, rx⟩ := r.one
  cases rx
  refine ⟨_, ns.length, rfl, .inl ⟨_, S H o, by rw [List.length_map]⟩, f _ _ H w (.int _) (Ext.refl _ _) o⟩
def ixS (a : Addr) (ns : List Int) : DOp := fun dx dy q => dx = .ptr a ∧ ∃ i, dy = .int i ∧ 0 ≤ i ∧ i < ns.length ∧ ∀ z : Int, q (.int z)
theorem opd_ixS (S : ScrAt X.K a ns R) : OpD X.K R (rIx X.K) (ixS a ns) := by
  rintro x y dx dy H q Q rx ry o ⟨rfl, i, rfl, i0, i1, w⟩ f
  cases rx; cases ry
  obtain ⟨n, z, rfl, hn, h1, h2⟩ := atI_place i0 i1
  refine .inl ⟨a, ns.map V.int, (n : Int), .int z, rfl, rfl, S H o, atI_nat (by rw [List.getElem?_map, h2]; rfl), f _ _ H (w z) (.int _) (Ext.refl _ _) o⟩
theorem d_ixS {e b : Expr} {te tb : TDE} (S : ScrAt X.K a ns R) (ha : EE X R e te) (hb : EE X R b tb) (hs : PlainIx b := by intro _ _; rfl) : EE X R (.Subscript e b pos) (vOp (ixS a ns) te tb) := PE_imp (pe_ix ix_seq ha hb hs) (tOp_of (opd_ixS S))
theorem rep_ints {K : PySem.W.Frag} {p : List Addr} {H : Hp} : ∀ zs : List Int, RepAll K p H (zs.map V.int) (zs.map D.int)
  | [] => .nil
  | z :: zs => .cons (.int z) (rep_ints zs)
def vSlS (a : Addr) (t : TDE) (tl th : TDO) : TDE := fun ρ q => t ρ fun dx => tl ρ fun lo => th ρ fun hi => dx = .ptr a ∧ ∀ zs : List Int, zs.length ≤ 16777216 → q (.seq (zs.map .int))
theorem d_sliceS {e : Expr} {lo hi : Option Expr} {t : TDE} {tl th : TDO} {p2 : Pos} (S : ScrAt X.K a ns R) (hns : ns.length ≤ 16777216) (he : EE X R e t) (hl : PO X lo (tDO X.K R tl)) (hu : PO X hi (tDO X.K R th)) : EE X R (.Subscript e (.Slice lo hi none p2) pos) (vSlS a t tl th) :=
  PE_imp (pe_slice slr_any he hl hu) fun σ H Q ⟨ρ, q, hr, ho, w, f⟩ => by
    refine ⟨ρ, _, hr, ho, w, fun dx x H1 w1 r1 e1 o1 => ?_⟩
    refine ⟨ρ, _, hr.mono e1, o1, w1, fun l H2 w2 e2 o2 => ?_⟩
    refine ⟨ρ, _, hr.mono (e1.trans e2), o2, w2, fun u H3 w3 e3 o3 => ?_⟩
    obtain ⟨rfl, w4⟩ := w3
    cases r1
    refine .inr (.inl ⟨a, _, rfl, S H3 o3, fun A n => ?_⟩)
    have e : cutV (ns.map V.int) l u = ((ns.drop (HT.sIx ns.length 0 l)).take (HT.sIx ns.length ns.length u - HT.sIx ns.length 0 l)).map V.int := by
      unfold cutV
      rw [List.length_map, List.map_take, List.map_drop]
    rw [e]
    refine f _ _ _ (w4 _ ?_) (new_seq (rep_ints _) n o3) (((e1.trans e2).trans e3).trans (Ext.new n)) (o3.new n)
    rw [List.length_take, List.length_drop]
    omega
/-! ## a pot, made and handed on -/
/-- makes a pot of an int -/
def spPot : Sp := fun vs H Q _ => ∃ c : Int, vs = [.int c] ∧ ∀ (a : Addr) (x y z : Int), H a = none → Q (.ref a) (upd H a (.lst [.int x, .int y, .int z]))
/-- whatever pot it is handed: true -/
def spAnyPot (K : PySem.W.Frag) (Fd : Addr → DCall) : Sp := fun vs H Q E => ∃ a, spD K (Res.pot a) (Fd a) vs H Q E
theorem fn_anyPot {P : Program} {w : World} {K : PySem.W.Frag} {mg : Str → Option Value} {base : Heap} {k : Nat} {f : Addr} {fd : FuncData} {ps : List Str} {Fd : Addr → DCall} (h : ∀ a, FnG P w K mg base k f fd ps (spD K (Res.pot a) (Fd a))) : FnG P w K mg base k f fd ps (spAnyPot K Fd) :=
  ⟨fun vs H Q E ⟨a, q⟩ => (h a).len vs H Q E q, fun A outer s H args us vs Q E hr hg he hb r ⟨a, q⟩ => (h a).run A outer s H args us vs Q E hr hg he hb r q⟩
/-- f(g(e)): g makes a pot, f draws from it and answers an int, a bool -/
def vOnPot (ans : D) (te : TDE) : TDE := fun ρ q => te ρ fun d => ∃ c, d = .int c ∧ q ans
theorem d_onPot {k j : Nat} {x y : Str} {p1 p2 p3 : Pos} {e : Expr} {te : TDE} {ans : D} {va : V} (hans : ∀ H p, Rep X.K p H va ans) (hinv : ∀ H p v, Rep X.K p H v ans → v = va) (F : Def X.prog X.w X.K X.mg X.base x k (spAnyPot X.K fun a ds q => ds = [.ptr a] ∧ q ans)) (G : Def X.prog X.w X.K X.mg X.base y j spPot) (hr : Room k X.A) (hr' : Room j X.A) (hgd : X.A.guards = some []) (he : EE X R e te)
    (hgx : Gl X x := by rfl) (hgy : Gl X y := by rfl) (hdx : (x == ("__debug__" : Str)) = false := by decide) (hdy : (y == ("__debug__" : Str)) = false := by decide)
    (hs1 : starEach [.Call (.Name y p2) [e] [] p3] X.env = (false, eval (.Call (.Name y p2) [e] [] p3) X.env) :: starEach [] X.env := by rfl) (hpl1 : (backTo pos (starEach [] X.env)).any (·.1) = false := by rfl)
    (hs2 : starEach [e] X.env = (false, eval e X.env) :: starEach [] X.env := by rfl) (hpl2 : (backTo p3 (starEach [] X.env)).any (·.1) = false := by rfl) :
    EE X R (.Call (.Name x p1) [.Call (.Name y p2) [e] [] p3] [] pos) (vOnPot ans te) := by
  obtain ⟨fa, fda, psa, Fa, hma, hka, hba⟩ := F.ex
  obtain ⟨fb, fdb, psb, Fb, hmb, hkb, hbb⟩ := G.ex
  have hin := pe_callG (pos := p3) (p := p2) Fb hr' hgd hgy hmb hkb hbb (pa_cons he pa_nil hs2) hdy hs2 hpl2
  refine PE_imp (pe_callG (pos := pos) (p := p1) Fa hr hgd hgx hma hka hba (pa_cons hin pa_nil hs1) hdx hs1 hpl1) ?_
  rintro σ H Q ⟨ρ, q, r, o, w, f⟩
  refine ⟨ρ, _, r, o, w, ?_⟩
  rintro d v H1 ⟨c, rfl, w1⟩ r1 e1 o1
  cases r1
  refine ⟨c, rfl, fun a x y z n => ?_⟩
  refine ⟨a, [.ptr a], fun d => d = ans, .cons (.ptr a) .nil, ⟨⟨x, y, z, upd_same⟩, trivial⟩, ⟨rfl, rfl⟩, ?_⟩
  rintro d v H' rfl rv e2 o2
  have := hinv _ _ _ rv
  subst this
  have keep : ∀ b u, H1 b = some u → H' b = some u := fun b u hb => e2 b u (by
    show b ∉ [a]
    simp
    exact ne_of_none hb n) (by rw [upd_ne (ne_of_none hb n)]; exact hb)
  have eH : Ext R.p H1 H' := fun b u nb hb => keep b u hb
  refine f d v H' w1 (hans _ _) (e1.trans eH) (Pot.mix o1 eH o1 fun b m => ?_)
  cases hb : H1 b with
  | none => exact absurd (List.mem_append_left _ m) (Pot.nin (R := R) o1 hb)
  | some u => exact keep b u hb
end
end Dl

set_option Elab.async false
set_option linter.all false
set_option maxRecDepth 100000
set_option maxHeartbeats 4000000
namespace Dl
open PySem PySem.Spec PyProof.Rows L2
/-! ## a law whose def keeps its promise where nothing is being shown -/
/-- the heap that tracks the script alone, unless it is the module's own -/
def scrHp (K : PySem.W.Frag) (a : Addr) (o : Obj) (xs : List V) : Hp := fun b => if b = a ∧ K.lookup a = none then some (.frz o (.lst xs)) else none
theorem scrHp_some {K : PySem.W.Frag} {a b : Addr} {o : Obj} {xs : List V} {u : HO} (h : scrHp K a o xs b = some u) : b = a ∧ K.lookup a = none ∧ u = .frz o (.lst xs) := by
  unfold scrHp at h
  split at h
  · rename_i c
    cases h
    exact ⟨c.1, c.2, rfl⟩
  · cases h
theorem scrHp_none {K : PySem.W.Frag} {a b : Addr} {o : Obj} {xs : List V} (h : ¬ (b = a ∧ K.lookup a = none)) : scrHp K a o xs b = none := if_neg h
def spTop (K : PySem.W.Frag) (n : Nat) : Sp := fun vs H Q _ => ∃ (a : Addr) (ns : List Int), vs = [.ref a] ∧ SqL K H a (ns.map V.int) ∧ ns.length ≤ n ∧ ∀ H', Q (.bl true) H'
theorem law_callG {P : Program} {w : World} {K : PySem.W.Frag} {mg mb : Str → Option Value} {k n : Nat} {fa a : Addr} {fd : FuncData} {x : Str} {s₁ : Shared} {vs : List Value} {ns : List Int}
    (KX : K.In s₁.heap) (hns : s₁.heap.Ns mainGlobals mg) (hb : s₁.heap.Ns builtinsNs mb) (hbb : ∀ x : Str, x ≠ "__name__" → mb x = bootBuiltins x) (hlim : s₁.heap.NoLimit) (hg : s₁.gens = #[])
    (ha : s₁.heap.get? a = some { cls := .type "list", data := .seq vs.toArray }) (hi : IntsAre vs ns) (hl : ns.length ≤ sizeLine) (hn : ns.length ≤ n) (hr : Room k callerA)
    (F : ∀ base : Heap, K.In base → base.Ns mainGlobals mg → FnG P w K mg base k fa fd [x] (spTop K n)) (hbind : ∀ (s : Shared) (u : Value), BindsTo s fd ⟨[u], []⟩ [(x, u)]) :
    codeAny (model P w) callerA (.call (.ref fa) ⟨[.ref a], []⟩) (fun r s' => r = .ok (.ret (.bool true)) ∧ OldK s₁.heap s'.heap ∧ s'.os = s₁.os ∧ AllBare s'.gens) s₁ := by
  have rv := vals_ints hi
  have hlv := hi.length
  generalize ho : ({ cls := .type "list", data := .seq vs.toArray } : Obj) = o at ha
  let H : Hp := scrHp K a o (ns.map V.int)
  have only : ∀ {b : Addr} {u : HO}, H b = some u → b = a ∧ K.lookup a = none ∧ u = .frz o (.lst (ns.map V.int)) := fun e => scrHp_some e
  have free : ∀ {b : Addr}, b ≠ a → H b = none := fun hb => scrHp_none fun e => hb e.1
  have script : SqL K H a (ns.map V.int) := by
    cases q : K.lookup a with
    | none => exact .inl (.inr ⟨o, if_pos ⟨rfl, q⟩⟩)
    | some o' =>
      have e := KX a o' q
      rw [ha] at e
      cases e
      subst ho
      exact .inr ⟨_, vs.toArray, _, q, rfl, rfl, rfl, by rw [List.size_toArray, hlv]; exact hl, by simpa using rv⟩
  have hok : HOk P w H s₁.heap := fun b u e => by
    obtain ⟨rfl, _, rfl⟩ := only e
    subst ho
    exact ⟨ha, by rw [List.length_map]; exact hl, vs, _, rv, ha⟩
  have kept : ∀ {b : Addr} {u : Obj}, s₁.heap.get? b = some u → H b = none → (hidT s₁.heap H).get? b = some u := fun e q => hidT_get e q
  have dicts : ∀ {b : Addr} {m : Str → Option Value}, s₁.heap.Ns b m → (hidT s₁.heap H).Ns b m := fun {b m} ⟨u, es, ep, e, d, r⟩ => by
    have hb : b ≠ a := fun q => by
      subst q
      rw [ha] at e
      cases e
      subst ho
      have d' : Data.seq vs.toArray _ = Data.dict es ep := d
      cases d'
    exact ⟨u, es, ep, kept e (free hb), d, r⟩
  have inK : K.In (hidT s₁.heap H) := fun b u e => kept (KX b u e) (by
    cases q : H b with
    | none => rfl
    | some t =>
      obtain ⟨rfl, h2, _⟩ := only q
      rw [h2] at e
      cases e)
  have hM : Mod K mg (hidT s₁.heap H) := ⟨inK, dicts hns, ⟨mb, dicts hb, hbb⟩, let ⟨mc, h1, h2⟩ := hlim; ⟨mc, dicts h1, h2⟩⟩
  have e0 : Env0 P w K mg (hidT s₁.heap H) callerA [] s₁ H := ⟨rfl, hM, fun b u e => of_hidT e, Nat.le_of_eq (hidT_size _ _), trivial, fun b m => absurd (show b ∈ ([] : List Addr) from m) (by simp), hok, .of_eq hg⟩
  have go := (F _ inK (dicts hns)).run callerA [] s₁ H ⟨[.ref a], []⟩ [.ref a] [.ref a] (fun v _ => v = .bl true) (fun _ _ _ => False) hr rfl e0 (hbind s₁ (.ref a)) (.cons rfl .nil) ⟨a, ns, rfl, script, hn, fun _ => rfl⟩
  refine codeAny_mono go fun r s' h => ?_
  cases r with
  | error e => exact h.elim
  | ok fl =>
    cases fl with
    | next => exact False.elim h
    | brk => exact False.elim h
    | cont => exact False.elim h
    | ret u =>
      obtain ⟨v, H', os, bare, un, hok', rvl, q⟩ := h
      have q' : v = .bl true := q
      subst q'
      obtain rfl : u = Value.bool true := rvl
      refine ⟨rfl, OldK.of_keep fun b ob e => ?_, os, bare⟩
      cases q : H b with
      | none => exact un.keep b ob e q (fun m => absurd (show b ∈ ([] : List Addr) from m) (by simp)) (by simp)
      | some t =>
        obtain ⟨rfl, _, rfl⟩ := only q
        have after := un.frzs b o _ q
        obtain ⟨h2, _⟩ := hok' b _ after
        rw [ha] at e
        cases e
        exact h2
/-- the end: a law over a head by facts -/
theorem walk_G {l : PySem.W.OpenLaw} {n k : Nat} {q : Program} {loose : List Str} {XP : (Str → Option Value) → Heap → Prop} {YP : World → Heap → Prop} {d : DefRec} {x : Str}
    (hn : l.most = some n) (hn2 : n ≤ sizeLine) (hdf : d.params.defaults = []) (hr : Room k callerA)
    (F : ∀ (w : World) (mg : Str → Option Value) (fa : Addr) (h : Heap), YP w h → h.Ns mainGlobals mg → mg d.name = some (.ref fa) →
      ∃ (K : PySem.W.Frag) (fd : FuncData), K.In h ∧ (∀ (s : Shared) (u : Value), BindsTo s fd ⟨[u], []⟩ [(x, u)]) ∧
        ∀ base : Heap, K.In base → base.Ns mainGlobals mg → FnG l.prog w K mg base k fa fd [x] (spTop K n)) :
    PySem.W.WalkO q loose XP YP l.row.toRowW d [] (fun f vs => PySem.call f vs) := by
  refine Att.attach_call hn hdf fun w s₀ s₁ mg mb fa o pm cd doc a vs ns G Y ho hd hcd hmg hobj hints hlen hg => ?_
  obtain ⟨K, fd, KX, hb, hF⟩ := F w mg fa _ Y G.T.g hmg
  exact law_callG KX G.T.g G.T.b G.T.builtins G.T.nolimit hg hobj hints (Nat.le_trans hlen hn2) hlen hr hF hb
/-! ## a def, a dict behind the top -/
theorem fun_ofD {K : PySem.W.Frag} {x : Str} {st : Stmt} {f : Addr} {fd : FuncData} (F : FunD K x x (defArgs st) (defBody st) (defScope st) [] [] f fd) : Fun K x x st f fd := by
  obtain ⟨oc, od, dV, kV, doc, pm, an, cdv, ct, osl, e, lk, hc, hd, _⟩ := F.ex
  rcases hd with ⟨_, hd⟩ | ⟨hd, _⟩
  · subst hd
    exact ⟨⟨oc, od, kV, doc, pm, an, cdv, ct, osl, e, lk, hc⟩, F.kp⟩
  · exact absurd rfl hd
theorem nsIn_none {K : PySem.W.Frag} {P : Params} {a : Addr} {ks : List Str} {z : Str} (h : He.dicW K a = some (He.keysIn P ks)) (hz : z ∉ ks) : PySem.W.nsIn K a z = some none := by
  unfold He.dicW at h
  unfold PySem.W.nsIn
  cases q : K.lookup a with
  | none => rw [q] at h; cases h
  | some o =>
    obtain ⟨oc, od, dt, osl⟩ := o
    rw [q] at h
    cases oc with
    | type c =>
      cases od with
      | none =>
        cases dt with
        | dict es n =>
          have h1 : (match decide (c = "dict") && (osl.isEmpty && !(a == sysModules)) with
            | true => some (es.toList.map He.keyOf)
            | false => none) = some (He.keysIn P ks) := h
          split at h1
          · have h2 : es.toList.map He.keyOf = He.keysIn P ks := Option.some.inj h1
            have key : ∀ e ∈ es.toList, ∃ x t, e.key = .str x t ∧ x ∈ ks := fun e he => by
              have m : He.keyOf e ∈ He.keysIn P ks := by rw [← h2]; exact List.mem_map_of_mem he
              obtain ⟨x, hx, e1⟩ := List.mem_map.mp m
              unfold He.keyOf at e1
              split at e1
              · rename_i y t e2
                have := (Prod.mk.inj (Option.some.inj e1)).1
                subst this
                exact ⟨_, t, e2, hx⟩
              · cases e1
            have f1 : es.toList.find? (·.key.isStr z) = none := by
              rw [List.find?_eq_none]
              intro e he hs
              obtain ⟨x, t, e2, hx⟩ := key e he
              rw [e2] at hs
              have : x = z := by simpa [Value.isStr] using hs
              exact hz (this ▸ hx)
            have f2 : es.toList.any (·.refKey) = false := by
              rw [List.any_eq_false]
              intro e he hs
              obtain ⟨x, t, e2, hx⟩ := key e he
              simp [DictEntry.refKey, e2] at hs
            show (match es.toList.find? (·.key.isStr z) with
              | some e => some (some e.val)
              | none => if es.toList.any (·.refKey) then none else some none) = some none
            rw [f1, f2]
            rfl
          · cases h1
        | _ => cases h
      | some b => cases dt <;> cases h
    | _ => cases od <;> cases dt <;> cases h
end Dl

set_option Elab.async false
set_option linter.all false
set_option maxRecDepth 100000
set_option maxHeartbeats 4000000
namespace Dl
open PySem PySem.Spec PyProof.Rows L2
/-! ## try: .. except (A, B, C) as n: .. -/
theorem fly_keeps {B h h' : Heap} {l : List Env} {a : Addr} {Z : Obj → Prop} (fl : HandSPX.FlyingZ B l a Z h) (k : ∀ b o, h.get? b = some o → h'.get? b = some o) : HandSPX.FlyingZ B l a Z h' := by
  obtain ⟨f1, f2, f3, oe, vs, T, oT, ts, g1, g2, g3, g4, g5, g6, g7, g8, g9⟩ := fl
  exact ⟨fun b o e => k b o (f1 b o e), f2, f3.of_keeps fun b o e _ => ⟨o, k b o e, rfl⟩, oe, vs, T, oT, ts, k _ _ g1, g2, g3, g4, g5, g6, k _ _ g7, g8, g9⟩
/-- what such a clause wishes of an exception: slot i is n's -/
def wAs3 (K : PySem.W.Frag) (cs : List Value) (i : Nat) (ts : Addr → Value → Option Addr → TS) (Wout : WX) (D : Ends) : WX := fun cls d σ H =>
  ∃ b, PySem.W.exmAny K cls cs = some b ∧
    (b = true → ∀ a, H a = none → ts a cls d { nx := fun σ' H' => D.nx (σ'.set i none) H', rt := D.rt, bk := fun σ' H' => D.bk (σ'.set i none) H', ct := fun σ' H' => D.ct (σ'.set i none) H' } (σ.set i (some (.ref a))) H) ∧ (b = false → Wout cls d σ H)
section
variable {X : Cx} {n : Str} {i : Nat} {body suite : List Stmt} {b₀ : Stmt} {pos pos' : Pos} {tb : WX → TS} {ts : Addr → Value → Option Addr → TS} {Wout : WX}
theorem ld_names {Y : Cx} {pins : List (Addr × Obj)} {σ : L2.St} {H : Hp} {s : Shared} {x : Str} {c : Value} {np : Pos} {Q : Value → Shared → Prop} {E : Value → Shared → Prop} (S : Inv Y pins σ H s) (hc : Names Y x c) (q : Q c s) : wpAny (model Y.prog Y.w) Y.A (eval (.Name x np) Y.env) Q E s := by
  obtain ⟨hg, hdb, hm | ⟨hm, hv, hn⟩⟩ := hc
  · exact ld_glob S hg hm q hdb
  · exact ld_blt S hg hm hv q hn hdb
theorem ps_try_as3 {x1 x2 x3 : Str} {c1 c2 c3 : Value} {p1 p2 p3 tp : Pos} {kt : Nat} (hs : X.stack = X.env :: X.outer) (hf : X.env.frame = some X.env.locals) (hN : X.N.Nodup) (hi : X.N[i]? = some n) (hln : X.env.kindOf n = some .local) (hc1 : Names X x1 c1) (hc2 : Names X x2 c2) (hc3 : Names X x3 c3) (tk : Takes X Wout)
    (hb : ∀ (W : WX) (pn : List (Addr × Obj)) (xe : Value → Shared → Prop), Takes (X.tr pn xe) W → PassesOwn (model X.prog X.w) X.A X.env xe → PSs (X.tr pn xe) body (tb W))
    (hsu : ∀ (a : Addr) (oe : Obj) (cls : Value) (d : Option Addr) (pn : List (Addr × Obj)), Zc cls d oe → (∃ vs, oe.data = .fields vs) → PSs (X.suite a ((a, oe) :: pn)) (b₀ :: suite) (ts a cls d)) :
    PS X (.Try body [.ExceptHandler (some (.Tuple [.Name x1 p1, .Name x2 p2, .Name x3 p3] kt tp)) (some n) (b₀ :: suite) pos'] [] [] pos) (fun D σ H => tb (wAs3 X.K [c1, c2, c3] i ts Wout D) D σ H) := by
  refine ⟨fun pins s σ H D I h => ?_⟩
  have ok := I.ok
  have frames : X.A.frames = some (X.env :: X.outer) := by rw [ok.frames, hs]
  refine wpAny_Try_except ?_
  refine wpAny_mono ((hb (wAs3 X.K [c1, c2, c3] i ts Wout D) (X.pn ++ pins) (fun e s₁ => wpAny (model X.prog X.w) X.A (noteFrame e X.env) (fun _ s₂ => wpAny (model X.prog X.w) X.A (setFlight e none) (fun _ s₃ =>
    wpAny (model X.prog X.w) X.A (handleBy e X.env [.ExceptHandler (some (.Tuple [.Name x1 p1, .Name x2 p2, .Name x3 p3] kt tp)) (some n) (b₀ :: suite) pos']) (SP X pins D) X.xe s₃) X.xe s₂) X.xe s₁) (fun u s' xx => ?_) PassesOwn.looking).run [] s σ H D (I.toTry _) h) (fun f s1 hsp => ?_) (fun e s1 he => he)
  · obtain ⟨a, B, sI, pins', σ', H', cls, d, rfl, J', nb, up, sky, na, os, ag, b, hb1, hyes, hno⟩ := xx
    have J : Inv X pins σ' H' sI := J'.ofTry ok
    have sky' : Sky B (X.env :: X.outer) a (Zc cls d) X.env.locals s'.heap := by rw [← hs]; exact sky
    show wpAny (model X.prog X.w) X.A (noteFrame (.ref a) X.env) _ _ _
    refine Sky.land Zc.steady frames hf sky' fun h3 fl3 up3 => ?_
    have J3 : Inv X pins σ' H' { s' with heap := h3 } := J.landed nb fl3.1 (up.trans up3) os ag
    obtain ⟨oe3, vs3, he3, hz3, hd3⟩ := fl3.there
    have out : a ∉ frs (X.env :: X.outer) := fun hm => by
      obtain ⟨_, o', e', hnf⟩ := fl3.2.2.1.mem hm
      rw [he3] at e'; cases e'
      exact hnf _ hd3
    have nL : a ≠ X.env.locals := fun z => out (List.mem_filterMap.mpr ⟨X.env, List.mem_cons_self, by rw [hf, z]⟩)
    have nF : a ∉ X.fs := fun hm => by
      obtain ⟨e, he, q⟩ := List.mem_filterMap.mp hm
      exact out (List.mem_filterMap.mpr ⟨e, List.mem_cons_of_mem _ he, q⟩)
    have S3 := J3.suite he3 hd3 na nL nF
    refine wpAny_handleBy_cons (codeAny_handlers_test ?_) (by intro q; cases q)
    -- the tuple of the classes
    let h5 : Heap := h3.push { cls := .type "tuple", data := .seq [c1, c2, c3].toArray }
    have k5 : ∀ b o, h3.get? b = some o → h5.get? b = some o := fun b o e => Heap.get?_push_of_some _ e
    have test : ∀ {Q : Value → Shared → Prop} {E : Value → Shared → Prop}, Q (.ref h3.objs.size) { s' with heap := h5 } → wpAny (model X.prog X.w) (X.A.mark (some (.ref a))) (eval (.Tuple [.Name x1 p1, .Name x2 p2, .Name x3 p3] kt tp) X.env) Q E { s' with heap := h3 } := fun {Q E} q => by
      refine wpAny_Tuple_spliced ?_
      refine Calls.spliced_cons (ld_names (Y := X.suite a ((a, oe3) :: (X.pn ++ pins))) S3 hc1 ?_)
      refine Calls.spliced_cons (ld_names (Y := X.suite a ((a, oe3) :: (X.pn ++ pins))) S3 hc2 ?_)
      refine Calls.spliced_cons (ld_names (Y := X.suite a ((a, oe3) :: (X.pn ++ pins))) S3 hc3 ?_)
      refine Calls.spliced_nil ?_
      exact ⟨by rw [sizeLine_eq]; exact (by decide : (3 : Nat) ≤ 16777216), q⟩
    have LT : PySem.W.Looks (model X.prog X.w) h5 (typeOf (.ref a)) cls := fun A Q E s k q => wpAny_typeOf_ref (k _ _ (k5 _ _ he3)) (by rw [hz3.1]; exact q)
    have K5 : X.K.In h5 := J3.kIn.keeps k5
    have LM := PySem.W.exm_tup3 (M := model X.prog X.w) (tp := h3.objs.size) K5 LT (Heap.get?_push_size h3 rfl) hb1
    have fl5 := fly_keeps fl3 k5
    have up5 : s'.heap.UpToSlots h5 := up3.trans (Heap.UpToSlots.of_keeps k5)
    refine test (LM.here ?_)
    cases b with
    | true =>
      refine codeAny_handlers_suite_as ?_
      refine HandSPX.lands_againZ fl5 fun h4 fl4 up4 => ?_
      have J4 : Inv X pins σ' H' { s' with heap := h4 } := J.landed nb fl4.1 ((up.trans up5).trans up4) os ag
      obtain ⟨oe4, vs4, he4, hz4, hd4⟩ := fl4.there
      have S4 := J4.suite he4 hd4 na nL nF
      refine store_ok (X := X.suite a ((a, oe4) :: (X.pn ++ pins))) (v := .ref a) S4 hN hi (.inl hln) rfl (fun s5 S5 => ?_) (.inr hln)
      have end_ : ∀ {σ6 : L2.St} {H6 : Hp} {Q : Shared → Prop} {s6 : Shared}, Inv (X.suite a ((a, oe4) :: (X.pn ++ pins))) [] σ6 H6 s6 → (∀ s7, Inv X pins (σ6.set i none) H6 s7 → Q s7) →
          wpAny (model X.prog X.w) X.A (do bindName X.env n .none; unbindBehindTheSuite X.env n pos') (fun _ s7 => Q s7) X.xe s6 := fun {σ6 H6 Q s6} S6 hq => gone_ok (S6.unsuite ok) hN hi hln hq
      refine wpAny_mono ((hsu a oe4 cls d (X.pn ++ pins) hz4 ⟨_, hd4⟩).run [] s5 _ H' _ S5 (hyes rfl a na)) (fun f s6 hsp => ?_) (fun _ _ z => False.elim z)
      cases f with
      | ret u =>
        obtain ⟨v6, σ6, H6, S6, r6, q6⟩ := hsp
        exact end_ S6 fun s7 J7 => ⟨_, _, _, J7, r6, q6⟩
      | next =>
        obtain ⟨σ6, H6, S6, q6⟩ := hsp
        exact end_ S6 fun s7 J7 => ⟨_, _, J7, q6⟩
      | brk =>
        obtain ⟨σ6, H6, S6, q6⟩ := hsp
        exact end_ S6 fun s7 J7 => ⟨_, _, J7, q6⟩
      | cont =>
        obtain ⟨σ6, H6, S6, q6⟩ := hsp
        exact end_ S6 fun s7 J7 => ⟨_, _, J7, q6⟩
    | false =>
      show wpAny _ X.A (handleBy (.ref a) X.env []) _ _ _
      refine wpAny_handleBy_nil ?_
      obtain ⟨m1, m2, m3, oe, vs, T, oT, ts', he, hz, hd, h1, hr⟩ := id fl5
      have fin : wpAny (model X.prog X.w) X.A (setFlight (.ref a) X.env.frame) (fun _ s4 => wpAny (model X.prog X.w) X.A (throw (.ref a) : Sem Flow) (SP X pins D) X.xe s4) X.xe { s' with heap := h5 } := by
        rw [hf]
        refine HandSPX.setFlight_upZ fl5 fun h4 hh4 up4 => wpAny_throw (tk _ _ ?_)
        exact ⟨a, B, sI, pins, σ', H', cls, d, rfl, J, nb, (up.trans up5).trans up4, .inr (.inr (by rw [hs]; exact hh4)), na, os, ag, hno rfl⟩
      unfold PySem.passOn
      refine wpAny_bind (wpAny_field he hd h1 ?_)
      rw [if_neg (show ¬ ((Value.ref T == Value.none) = true) from by simp)]
      first
        | exact wpAny_bind (wpAny_pure (wpAny_bind fin))
        | exact wpAny_bind fin
  · cases f with
    | ret u =>
      obtain ⟨v, σ', H', J', r, q⟩ := hsp
      exact ⟨v, σ', H', J'.ofTry ok, r, q⟩
    | next =>
      obtain ⟨σ', H', J', q⟩ := hsp
      exact wpAny_execs_nil ⟨σ', H', J'.ofTry ok, q⟩
    | brk =>
      obtain ⟨σ', H', J', q⟩ := hsp
      exact ⟨σ', H', J'.ofTry ok, q⟩
    | cont =>
      obtain ⟨σ', H', J', q⟩ := hsp
      exact ⟨σ', H', J'.ofTry ok, q⟩
end
end Dl

set_option Elab.async false
set_option linter.all false
set_option maxRecDepth 100000
set_option maxHeartbeats 4000000
namespace Dl
open PySem PySem.Spec PyProof.Rows L2
/-! ## defs that may raise an own error without fields -/
structure FnX (P : Program) (w : World) (K : PySem.W.Frag) (mg : Str → Option Value) (base : Heap) (k : Nat) (f : Addr) (fd : FuncData) (ps : List Str) (sp : Sp) : Prop where
  len : ∀ vs H Q E, sp vs H Q E → vs.length = ps.length
  run : ∀ (A : Around) (outer : List Env) (s : Shared) (H : Hp) (args : Args) (us : List Value) (vs : List V) (Q : VK) (E : XK), Room k A → A.guards = some [] → Env0 P w K mg base A outer s H → BindsTo s fd args (ps.zip us) → Vals vs us → sp vs H Q E →
    codeAny (model P w) A (.call (.ref f) args) (CR (L2.CX P w) outer P w H s Q E) s
theorem fn_ofX {P : Program} {w : World} {K : PySem.W.Frag} {mg : Str → Option Value} {base : Heap} {k : Nat} {f : Addr} {name qual : Str} {params : Arguments} {body : List Stmt} {scope : Scope} {dV kV doc pm cdv ct oc : Value} {an od : Option Addr}
    {osl : Array (Option Value)} {N ps : List Str} {sp : Sp} (lk : K.lookup f = some ⟨oc, od, .func (PySem.W.fnOf name qual params body scope dV kV doc pm an cdv ct), osl⟩) (hcd : PySem.W.codeIn K cdv qual = true) (S : FnScope N ps scope)
    (len : ∀ vs H Q E, sp vs H Q E → vs.length = ps.length)
    (hbody : ∀ (A : Around) (outer : List Env) (s : Shared) (H : Hp) (vs : List V) (Q : VK) (E : XK), Room k (A.deeper (envOfC qual scope s.heap.objs.size f cdv)) → A.guards = some [] → sp vs H Q E →
      ∃ t, PSs (cxOf (L2.CX P w) P w K mg base N qual scope f cdv A outer s H E) body t ∧ t { nx := fun _ H' => Q .non H', rt := Q } (L2.start N vs) H) :
    FnX P w K mg base (k + 1) f (PySem.W.fnOf name qual params body scope dV kV doc pm an cdv ct) ps sp := by
  refine ⟨len, fun A outer s H args us vs Q E hr hgd e0 hb r hsp => ?_⟩
  have hl := len _ _ _ _ hsp
  have KX : K.In s.heap := e0.mod.kin.keeps fun b o e => (e0.bs b o e).1
  have lim : s.heap.NoLimit := e0.mod.nolimit.keeps fun b o e => (e0.bs b o e).1
  have hkind : ∀ y ∈ ps.zip us, scope.names.lookup y.1 = some .local ∨ (scope.names.lookup y.1 = some .cell ∧ ((cellsFrom (s.heap.objs.size + 1) scope.names []).lookup y.1).isSome = true) := fun ⟨n, v⟩ hy => by
    rcases S.par n (List.of_mem_zip hy).1 with q | q
    · exact .inl q
    · exact .inr ⟨q, PySem.W.cellsFrom_some _ _ _ (.inl q)⟩
  refine codeAny_call_function hr.depth (KX _ _ lk) rfl S.co S.gen rfl (PySem.W.codeRec_of KX hcd) (hb _ _ _ _ ?_)
  refine wpAny_newFunctionEnv_cells S.kind hkind fun env he s1 x => ?_
  subst he
  refine ⟨lim.keeps x.toInCall.keep, codeAny_func ?_⟩
  obtain ⟨t, ht, hq⟩ := hbody A outer s H vs Q E (hr.deeper _) hgd hsp
  have I : Inv (cxOf (L2.CX P w) P w K mg base N qual scope f cdv A outer s H E) [] (L2.start N vs) H s1 := inv_start S hr.hd e0 hl r x
  refine wpAny_mono (ht.run [] s1 (L2.start N vs) H _ I hq) (fun fl s' hs => ?_) fun e s' hs => hs
  have fin : ∀ {σ' : L2.St} {H' : Hp} {v : V} {u : Value}, Inv (cxOf (L2.CX P w) P w K mg base N qual scope f cdv A outer s H E) [] σ' H' s' → RelV v u → Q v H' → CE outer P w H s Q u s' :=
    fun {σ' H' v u} J rv q => ⟨v, H', J.os, J.bare, J.base, J.hok, rv, q⟩
  cases fl with
  | ret u =>
    obtain ⟨v, σ', H', J, rv, q⟩ := hs
    exact fin J rv q
  | next =>
    obtain ⟨σ', H', J, q⟩ := hs
    exact fin (v := V.non) (u := Value.none) J rfl q
  | brk =>
    obtain ⟨_, _, _, q⟩ := hs
    exact False.elim q
  | cont =>
    obtain ⟨_, _, _, q⟩ := hs
    exact False.elim q
section
variable {P : Program} {w : World} {K : PySem.W.Frag} {mg : Str → Option Value} {base : Heap}
/-- a promise on data, with what is wanted of an error of the class at C -/
abbrev DCallX := List D → (D → Prop) → (Addr → Prop) → Prop
def spX (K : PySem.W.Frag) (R : Res) (Fx : DCallX) : Sp := fun vs H Q E => ∃ ds q x, RepAll K R.av H vs ds ∧ Pot R H ∧ Fx ds q x ∧ Fin K R H q Q ∧ ∀ C H', x C → Ext R.p H H' → Pot R H' → E (.ref C) none H'
/-- errors, wanted -/
def FinX (K : PySem.W.Frag) (R : Res) (W : WX) (H : Hp) (x : Addr → DE → Prop) : Prop := ∀ C ρ σ H', x C ρ → REnv K R.av H' σ ρ → Ext R.p H H' → Pot R H' → W (.ref C) none σ H'
theorem FinX.step {R : Res} {W : WX} {H H' : Hp} {x : Addr → DE → Prop} (e : Ext R.p H H') (f : FinX K R W H x) : FinX K R W H' x := fun C ρ σ H'' h r y o => f C ρ σ H'' h r (e.trans y) o
abbrev TDX := DEnds → (Addr → DE → Prop) → DE → Prop
def tDX (K : PySem.W.Frag) (R : Res) (W : WX) (t : TDX) : TS := fun E σ H => ∃ ρ e x, REnv K R.av H σ ρ ∧ Pot R H ∧ t e x ρ ∧ FinS K R H e E ∧ FinX K R W H x
abbrev EX (X : Cx) (R : Res) (W : WX) (st : Stmt) (t : TDX) : Prop := PS X st (tDX X.K R W t)
abbrev EXs (X : Cx) (R : Res) (W : WX) (sts : List Stmt) (t : TDX) : Prop := PSs X sts (tDX X.K R W t)
/-- THE RULE for such a def -/
theorem FunX.ok {x qual : Str} {st : Stmt} {f : Addr} {fd : FuncData} {N ps : List Str} {k : Nat} {R : Res} {Fx : DCallX} (F : Fun K x qual st f fd) (S : FnScope N ps (defScope st)) (len : ∀ ds q x, Fx ds q x → ds.length = ps.length)
    (hbody : ∀ (cdv : Value) (A : Around) (outer : List Env) (s : Shared) (H : Hp) (E : XK) (ds : List D) (q : D → Prop) (x : Addr → Prop), Room k (A.deeper (envOfC qual (defScope st) s.heap.objs.size f cdv)) → A.guards = some [] → Fx ds q x →
      ∃ t, EXs (cxOf (L2.CX P w) P w K mg base N qual (defScope st) f cdv A outer s H E) R (fun cls d _ H' => E cls d H') (defBody st) t ∧ t ⟨fun _ => q .non, q⟩ (fun C _ => x C) (startD N ds)) : FnX P w K mg base (k + 1) f fd ps (spX K R Fx) := by
  obtain ⟨oc, od, kV, doc, pm, an, cdv, ct, osl, rfl, lk, hcd⟩ := F.ex
  refine fn_ofX lk hcd S (fun vs H Q E ⟨ds, q, x, r, _, h, _⟩ => by rw [r.length]; exact len ds q x h) fun A outer s H vs Q E hr hg ⟨ds, q, x, r, o, h, f, g⟩ => ?_
  obtain ⟨t, ht, hq⟩ := hbody cdv A outer s H E ds q x hr hg h
  exact ⟨_, ht, _, _, _, start_env r, o, hq, ⟨fun ρ σ H' w r' e o' => f _ _ H' w .non e o', f⟩, fun C ρ σ H' hx r' e o' => g C H' hx e o'⟩
theorem takes_fn {N : List Str} {qual : Str} {scope : Scope} {f : Addr} {cdv : Value} {A : Around} {outer : List Env} {s : Shared} {H : Hp} {E : XK} : Takes (cxOf (L2.CX P w) P w K mg base N qual scope f cdv A outer s H E) (fun cls d _ H' => E cls d H') :=
  takes_of (E := E) rfl rfl rfl rfl
structure DefX (P : Program) (w : World) (K : PySem.W.Frag) (mg : Str → Option Value) (base : Heap) (x : Str) (ps : List Str) (k : Nat) (sp : Sp) : Prop where
  ex : ∃ (f : Addr) (fd : FuncData), FnX P w K mg base k f fd ps sp ∧ mg x = some (.ref f) ∧ PySem.W.keepIn K (.ref f) = true ∧ Binds K fd ps [] ∧ ∀ (s : Shared) (u : Value), ps.length = 1 → BindsTo s fd ⟨[], ps.zip [u]⟩ (ps.zip [u])
end
section
variable {X : Cx} {R : Res} {W : WX} {pos : Pos}
theorem x_lift {st : Stmt} {t : TDS} (h : ES X R st t) : EX X R W st (fun e _ ρ => t e ρ) := PS_imp h fun E σ H ⟨ρ, e, x, r, o, w, f, g⟩ => ⟨ρ, e, r, o, w, f⟩
theorem xs_lift {sts : List Stmt} {t : TDS} (h : ESs X R sts t) : EXs X R W sts (fun e _ ρ => t e ρ) := PSs_imp h fun E σ H ⟨ρ, e, x, r, o, w, f, g⟩ => ⟨ρ, e, r, o, w, f⟩
def xSeq (t u : TDX) : TDX := fun e x ρ => t ⟨u e x, e.rt⟩ x ρ
theorem xs_cons {st : Stmt} {rest : List Stmt} {t u : TDX} (h1 : EX X R W st t) (h2 : EXs X R W rest u) : EXs X R W (st :: rest) (xSeq t u) := PSs_imp (pss_cons h1 h2) fun E σ H ⟨ρ, e, x, r, o, w, f, g⟩ =>
  ⟨ρ, _, x, r, o, w, ⟨fun ρ' σ' H' w' r' y o' => ⟨ρ', e, x, r', o', w', f.step y, g.step y⟩, f.rt⟩, g⟩
theorem xs_one {st : Stmt} {t : TDX} (h1 : EX X R W st t) : EXs X R W [st] t := pss_one h1
def xIf (c : TDT) (t u : TDX) : TDX := fun e x ρ => c ρ fun b => if b = true then t e x ρ else u e x ρ
theorem x_if {c : Expr} {a b : List Stmt} {tc : TDT} {t u : TDX} (hc : ET X R c tc) (ha : EXs X R W a t) (hb : EXs X R W b u) : EX X R W (.If c a b pos) (xIf tc t u) := PS_imp (ps_if hc ha hb) fun E σ H ⟨ρ, en, x, r, o, w, f, g⟩ => by
  refine ⟨ρ, _, r, o, w, fun k H1 w1 e1 o1 => ?_⟩
  cases k with
  | true => rw [if_pos rfl] at w1 ⊢; exact ⟨ρ, en, x, r.mono e1, o1, w1, f.step e1, g.step e1⟩
  | false => rw [if_neg Bool.false_ne_true] at w1 ⊢; exact ⟨ρ, en, x, r.mono e1, o1, w1, f.step e1, g.step e1⟩
/-! ### calls -/
theorem run_fnX {k : Nat} {f : Addr} {fd : FuncData} {ps : List Str} {sp : Sp} {E : L2.St → XK} {pins : List (Addr × Obj)} {σ : L2.St} {H : Hp} {s : Shared} {Q : VK} {us : List Value} {vs : List V} {args : Args} (F : FnX X.prog X.w X.K X.mg X.base k f fd ps sp) (hr : Room k X.A) (hg : X.A.guards = some []) (hb : us.length = ps.length → BindsTo s fd args (ps.zip us)) (hx : PassesAt (L2.CX X.prog X.w) X σ (E σ))
    (I : Inv X pins σ H s) (r : Vals vs us) (h : sp vs H Q (E σ)) : wpAny (model X.prog X.w) X.A (call (.ref f) args.pos args.kw) (EP X pins σ Q) X.xe s := by
  have hl : us.length = ps.length := by rw [← r.length]; exact F.len _ _ _ _ h
  refine wpAny_call (codeAny_mono (F.run X.A X.stack s H args us vs Q (E σ) hr hg I.env0 (hb hl) r h) fun r s' hq => ?_)
  cases r with
  | error e => exact hx pins H s e s' I hq
  | ok fl =>
    cases fl with
    | ret u => exact I.after hq
    | next => exact False.elim hq
    | brk => exact False.elim hq
    | cont => exact False.elim hq
/-- f(e, ..) -/
theorem pe_callX {k : Nat} {f : Addr} {fd : FuncData} {ps : List Str} {sp : Sp} {E : L2.St → XK} {x : Str} {p : Pos} {e : Expr} {es : List Expr} {t : TA} (F : FnX X.prog X.w X.K X.mg X.base k f fd ps sp) (hr : Room k X.A) (hgd : X.A.guards = some []) (hg : Gl X x) (hm : X.mg x = some (.ref f)) (hk : PySem.W.keepIn X.K (.ref f) = true) (hb : Binds X.K fd ps []) (hx : ∀ σ, PassesAt (L2.CX X.prog X.w) X σ (E σ))
    (ha : PA X (e :: es) t) (hdb : (x == ("__debug__" : Str)) = false := by decide) (he : starEach (e :: es) X.env = (false, eval e X.env) :: starEach es X.env := by rfl) (hpl : (backTo pos (starEach es X.env)).any (·.1) = false := by rfl) :
    PE X (.Call (.Name x p) (e :: es) [] pos) (tCallS sp E t) := by
  refine ⟨fun pins s σ H Q I h => ?_⟩
  refine wpAny_Call_Name_kw (ld_glob I hg hm ?_ hdb)
  refine PySem.W.callWith_K (h₀ := X.base) I.ok.mod.kin hk (thn (ha.run pos pins s σ H _ I h) fun us s1 ⟨vs, H1, I1, r, q⟩ => ⟨I1.kIn, ?_⟩) he hpl
  exact run_fnX (args := ⟨us, []⟩) F hr hgd (fun hl => by
    have b := hb s1 us I1.kIn (by rw [List.append_nil]; exact hl)
    rw [List.append_nil] at b
    exact b) (hx σ) I1 r q
/-- an own error may come of it: f(e, ..) as a statement -/
def xCall (Fx : DCallX) (ta : TDA) : TDX := fun e x ρ => ta ρ fun ds => Fx ds (fun _ => e.nx ρ) (fun C => x C ρ)
theorem x_call {k : Nat} {x : Str} {p pos' : Pos} {e : Expr} {es : List Expr} {ta : TDA} {Fx : DCallX} {ps : List Str} (F : DefX X.prog X.w X.K X.mg X.base x ps k (spX X.K R Fx)) (tk : Takes X W) (hr : Room k X.A) (hgd : X.A.guards = some []) (ha : EA X R (e :: es) ta) (hg : Gl X x := by rfl)
    (hdb : (x == ("__debug__" : Str)) = false := by decide) (he : starEach (e :: es) X.env = (false, eval e X.env) :: starEach es X.env := by rfl) (hpl : (backTo pos (starEach es X.env)).any (·.1) = false := by rfl) :
    EX X R W (.Expr (.Call (.Name x p) (e :: es) [] pos) pos') (xCall Fx ta) := by
  obtain ⟨f, fd, F, hm, hk, hb, _⟩ := F.ex
  refine PS_imp (ps_expr (pe_callX (E := WE W) F hr hgd hg hm hk hb (fun σ => passAt tk σ) ha hdb he hpl)) fun E σ H ⟨ρ, en, x, r, o, w, f, g⟩ => ?_
  refine ⟨ρ, _, r, o, w, fun ds vs H1 w1 r1 e1 o1 => ?_⟩
  exact ⟨ds, _, _, r1, o1, w1, fun d v H2 w2 r2 e2 o2 => f.nx ρ σ H2 w2 (r.mono (e1.trans e2)) (e1.trans e2) o2, fun C H2 hx e2 o2 => g C ρ σ H2 hx (r.mono (e1.trans e2)) (e1.trans e2) o2⟩
/-- no error comes of it: f(e, ..) as a value -/
def vCallN (Fx : DCallX) (ta : TDA) : TDE := fun ρ q => ta ρ fun ds => Fx ds q (fun _ => False)
theorem pass_no {σ : L2.St} : PassesAt (L2.CX X.prog X.w) X σ E0 := fun pins H s e s' I h => by
  obtain ⟨_, _, _, _, _, _, _, _, _, _, _, _, z⟩ := h
  exact z.elim
theorem d_callN {k : Nat} {x : Str} {p : Pos} {e : Expr} {es : List Expr} {ta : TDA} {Fx : DCallX} {ps : List Str} (F : DefX X.prog X.w X.K X.mg X.base x ps k (spX X.K R Fx)) (hr : Room k X.A) (hgd : X.A.guards = some []) (ha : EA X R (e :: es) ta) (hg : Gl X x := by rfl)
    (hdb : (x == ("__debug__" : Str)) = false := by decide) (he : starEach (e :: es) X.env = (false, eval e X.env) :: starEach es X.env := by rfl) (hpl : (backTo pos (starEach es X.env)).any (·.1) = false := by rfl) :
    EE X R (.Call (.Name x p) (e :: es) [] pos) (vCallN Fx ta) := by
  obtain ⟨f, fd, F, hm, hk, hb, _⟩ := F.ex
  refine PE_imp (pe_callX (E := fun _ => E0) F hr hgd hg hm hk hb (fun σ => pass_no) ha hdb he hpl) fun σ H Q ⟨ρ, q, r, o, w, f⟩ => ?_
  refine ⟨ρ, _, r, o, w, fun ds vs H1 w1 r1 e1 o1 => ?_⟩
  exact ⟨ds, q, fun _ => False, r1, o1, w1, f.step e1, fun C H2 hx => hx.elim⟩
/-- .. by the parameter's name -/
theorem d_callNK {k : Nat} {x y : Str} {p kp : Pos} {e : Expr} {te : TDE} {Fx : DCallX} (F : DefX X.prog X.w X.K X.mg X.base x [y] k (spX X.K R Fx))
    (hr : Room k X.A) (hgd : X.A.guards = some []) (ha : EE X R e te) (hg : Gl X x := by rfl)
    (hdb : (x == ("__debug__" : Str)) = false := by decide) (hall : (backToKw pos (keywordEach [⟨some y, e, kp⟩] X.env)).all (·.1.isSome) = true := by rfl) (hks : (backToKw pos (keywordEach [⟨some y, e, kp⟩] X.env)).filterMap (·.1) = [y] := by rfl)
    (hpl : ((backTo pos (starEach [] X.env)).any (·.1) || (backToKw pos (keywordEach [⟨some y, e, kp⟩] X.env)).any (·.1.isNone)) = false := by rfl) :
    EE X R (.Call (.Name x p) [] [⟨some y, e, kp⟩] pos) (vCallN Fx (vCons te vNil)) := by
  obtain ⟨f, fd, F, hm, hk, hb, hbk⟩ := F.ex
  refine ⟨fun pins s σ H Q I ⟨ρ, q, r, o, w, fi⟩ => ?_⟩
  refine wpAny_Call_Name_kw (ld_glob I hg hm ?_ hdb)
  refine PySem.W.callWith_KW0 (h₀ := X.base) I.ok.mod.kin hk hall ?_ hpl
  refine thn ((pk_cons (nm := some y) (kpos := kp) ha pk_nil).run pos pins s σ H (fun vs H1 => spX X.K R Fx vs H1 Q E0) I ?_) fun ws s2 ⟨zs, H2, I2, rz, q2⟩ => ⟨I2.kIn, ?_⟩
  · refine ⟨ρ, _, r, o, w, fun d v H1 w1 r1 e1 o1 => ?_⟩
    exact ⟨[d], q, fun _ => False, .cons r1 .nil, o1, w1, fi.step e1, fun C H2 hx => hx.elim⟩
  · rw [hks]
    have hl : zs.length = 1 := F.len _ _ _ _ q2
    obtain ⟨z, rfl⟩ : ∃ z, zs = [z] := by
      match zs, hl with | [z], _ => exact ⟨z, rfl⟩
    cases rz with
    | cons ru rn =>
      cases rn
      exact run_fnX (E := fun _ => E0) (args := ⟨[], [y].zip [_]⟩) F hr hgd (fun _ => hbk s2 _ rfl) pass_no I2 (.cons ru .nil) q2
/-! ### raise -/
def xRaise (C : Addr) : TDX := fun _ x ρ => x C ρ
theorem x_raise {C : Addr} {bmB : List Value} {B newId initId : String} {x m : Str} {j : Nat} {p p2 pos1 : Pos} (hc : X.calm = true) (tk : Takes X W) (F : ExcBaseFacts B newId initId bmB) (q : PySem.W.excIn X.K C bmB newId = true) (gC : X.mg x = some (.ref C)) (kC : PySem.W.keepIn X.K (.ref C) = true) (r : Raises X (.ref C)) (hg : Gl X x := by rfl)
    (hdb : (x == ("__debug__" : Str)) = false := by decide) : EX X R W (.Raise (some (.Call (.Name x p) [.Constant (.str m) j p2] [] pos)) none pos1) (xRaise C) :=
  PS_imp (ps_raise hc tk (pmk_own F q gC kC r hg hdb)) fun E σ H ⟨ρ, en, x, r, o, w, f, g⟩ => g C ρ σ H w r (Ext.refl _ _) o
/-! ### try -/
/-- the suite of the clause: the class of the error, the error's address -/
def tSu (K : PySem.W.Frag) (R : Res) (tsu : Addr → Addr → TDS) : Addr → Value → Option Addr → TS := fun a cls d E σ H => ∃ ρ e C, cls = .ref C ∧ d = none ∧ REnv K R.av H σ ρ ∧ Pot R H ∧ tsu C a e ρ ∧ FinS K R H e E
def sTry (K : PySem.W.Frag) (cs : List Value) (i : Nat) (tb : TDX) (tsu : Addr → Addr → TDS) : TDS := fun e ρ =>
  tb e (fun C ρ' => PySem.W.exmAny K (.ref C) cs = some true ∧ ∀ a, tsu C a ⟨fun ρ'' => e.nx (ρ''.set i none), e.rt⟩ (ρ'.set i (some (.ptr a)))) ρ
theorem s_try3 {n : Str} {i : Nat} {body suite : List Stmt} {b₀ : Stmt} {pos' : Pos} {tb : TDX} {tsu : Addr → Addr → TDS} {x1 x2 x3 : Str} {c1 c2 c3 : Value} {p1 p2 p3 tp : Pos} {kt : Nat} (hs : X.stack = X.env :: X.outer) (hf : X.env.frame = some X.env.locals) (hN : X.N.Nodup) (hi : X.N[i]? = some n) (hln : X.env.kindOf n = some .local) (hc1 : Names X x1 c1) (hc2 : Names X x2 c2) (hc3 : Names X x3 c3)
    (hb : ∀ (W : WX) (pn : List (Addr × Obj)) (xe : Value → Shared → Prop), Takes (X.tr pn xe) W → EXs (X.tr pn xe) R W body tb)
    (hsu : ∀ (a : Addr) (oe : Obj) (cls : Value) (d : Option Addr) (pn : List (Addr × Obj)), Zc cls d oe → (∃ vs, oe.data = .fields vs) → PSs (X.suite a ((a, oe) :: pn)) (b₀ :: suite) (tSu X.K R tsu a cls d)) :
    ES X R (.Try body [.ExceptHandler (some (.Tuple [.Name x1 p1, .Name x2 p2, .Name x3 p3] kt tp)) (some n) (b₀ :: suite) pos'] [] [] pos) (sTry X.K [c1, c2, c3] i tb tsu) :=
  PS_imp (ps_try_as3 (Wout := fun _ _ _ _ => False) (tb := fun W => tDX X.K R W tb) hs hf hN hi hln hc1 hc2 hc3 takes0 (fun W pn xe tk _ => hb W pn xe tk) hsu) fun E σ H ⟨ρ, e, r, o, w, f⟩ => by
    refine ⟨ρ, e, _, r, o, w, f, ?_⟩
    rintro C ρ' σ' H' ⟨hm, hall⟩ r' e' o'
    refine ⟨true, hm, fun _ a na => ⟨ρ'.set i (some (.ptr a)), _, C, rfl, rfl, r'.set (.ptr a) i, o', hall a, ⟨fun ρ'' σ'' H'' w'' r'' e'' o'' => ?_, f.rt.step e'⟩⟩, fun z => nomatch z⟩
    exact f.nx _ _ H'' w'' (r''.drop i) (e'.trans e'') o''
end
/-! ## a def that is handed the error that its caller holds -/
open L2H in
structure FnP (P : Program) (w : World) (K : PySem.W.Frag) (mg : Str → Option Value) (base : Heap) (k : Nat) (f : Addr) (fd : FuncData) (ps : List Str) (sp : Addr × Obj → Sp) : Prop where
  len : ∀ p vs H Q E, sp p vs H Q E → vs.length = ps.length
  run : ∀ (A : Around) (outer : List Env) (s : Shared) (H : Hp) (args : Args) (us : List Value) (vs : List V) (Q : VK) (E : XK) (p : Addr × Obj), RoomH k A → A.guards = some [] → PinOk outer H s p → Env0 P w K mg base A outer s H → BindsTo s fd args (ps.zip us) → Vals vs us → sp p vs H Q E →
    codeAny (model P w) A (.call (.ref f) args) (CR CX0 outer P w H s Q E) s
open L2H in
theorem fn_ofP {P : Program} {w : World} {K : PySem.W.Frag} {mg : Str → Option Value} {base : Heap} {k : Nat} {f : Addr} {name qual : Str} {params : Arguments} {body : List Stmt} {scope : Scope} {dV kV doc pm cdv ct oc : Value} {an od : Option Addr}
    {osl : Array (Option Value)} {N ps : List Str} {sp : Addr × Obj → Sp} (lk : K.lookup f = some ⟨oc, od, .func (PySem.W.fnOf name qual params body scope dV kV doc pm an cdv ct), osl⟩) (hcd : PySem.W.codeIn K cdv qual = true) (S : FnScope N ps scope)
    (len : ∀ p vs H Q E, sp p vs H Q E → vs.length = ps.length)
    (hbody : ∀ (A : Around) (outer : List Env) (s : Shared) (H : Hp) (vs : List V) (Q : VK) (E : XK) (p : Addr × Obj), RoomH k (A.deeper (envOfC qual scope s.heap.objs.size f cdv)) → A.guards = some [] → sp p vs H Q E →
      ∃ t, PSs (cxH CX0 P w K mg base N qual scope f cdv A outer s H E p) body t ∧ t { nx := fun _ H' => Q .non H', rt := Q } (L2.start N vs) H) :
    FnP P w K mg base (k + 1) f (PySem.W.fnOf name qual params body scope dV kV doc pm an cdv ct) ps sp := by
  refine ⟨len, fun A outer s H args us vs Q E p hr hgd hpin e0 hb r hsp => ?_⟩
  have hl := len _ _ _ _ _ hsp
  have KX : K.In s.heap := e0.mod.kin.keeps fun b o e => (e0.bs b o e).1
  have lim : s.heap.NoLimit := e0.mod.nolimit.keeps fun b o e => (e0.bs b o e).1
  have hkind : ∀ y ∈ ps.zip us, scope.names.lookup y.1 = some .local ∨ (scope.names.lookup y.1 = some .cell ∧ ((cellsFrom (s.heap.objs.size + 1) scope.names []).lookup y.1).isSome = true) := fun ⟨n, v⟩ hy => by
    rcases S.par n (List.of_mem_zip hy).1 with q | q
    · exact .inl q
    · exact .inr ⟨q, PySem.W.cellsFrom_some _ _ _ (.inl q)⟩
  refine codeAny_call_function hr.depth (KX _ _ lk) rfl S.co S.gen rfl (PySem.W.codeRec_of KX hcd) (hb _ _ _ _ ?_)
  refine wpAny_newFunctionEnv_cells S.kind hkind fun env he s1 x => ?_
  subst he
  refine ⟨lim.keeps x.toInCall.keep, codeAny_func ?_⟩
  obtain ⟨t, ht, hq⟩ := hbody A outer s H vs Q E p (hr.deeper _) hgd hsp
  have I : Inv (cxH CX0 P w K mg base N qual scope f cdv A outer s H E p) [] (L2.start N vs) H s1 := inv_startH S hpin e0 hl r x
  refine wpAny_mono (ht.run [] s1 (L2.start N vs) H _ I hq) (fun fl s' hs => ?_) fun e s' hs => hs
  have fin : ∀ {σ' : L2.St} {H' : Hp} {v : V} {u : Value}, Inv (cxH CX0 P w K mg base N qual scope f cdv A outer s H E p) [] σ' H' s' → RelV v u → Q v H' → CE outer P w H s Q u s' :=
    fun {σ' H' v u} J rv q => ⟨v, H', J.os, J.bare, J.base, J.hok, rv, q⟩
  cases fl with
  | ret u =>
    obtain ⟨v, σ', H', J, rv, q⟩ := hs
    exact fin J rv q
  | next =>
    obtain ⟨σ', H', J, q⟩ := hs
    exact fin (v := V.non) (u := Value.none) J rfl q
  | brk =>
    obtain ⟨_, _, _, q⟩ := hs
    exact False.elim q
  | cont =>
    obtain ⟨_, _, _, q⟩ := hs
    exact False.elim q
/-- its promise: the error's class -/
def spP (K : PySem.W.Frag) (R : Res) (Fs : Addr → (D → Prop) → Prop) : Addr × Obj → Sp := fun p vs H Q _ => ∃ C q, vs = [.ref p.1] ∧ Zc (.ref C) none p.2 ∧ (∃ fs, p.2.data = .fields fs) ∧ Pot R H ∧ Fs C q ∧ Fin K R H q Q
section
variable {P : Program} {w : World} {K : PySem.W.Frag} {mg : Str → Option Value} {base : Heap}
open L2H in
theorem FunP.ok {x qual : Str} {st : Stmt} {f : Addr} {fd : FuncData} {N : List Str} {y : Str} {k : Nat} {R : Res} {Fs : Addr → (D → Prop) → Prop} (F : Fun K x qual st f fd) (S : FnScope N [y] (defScope st))
    (hbody : ∀ (cdv : Value) (A : Around) (outer : List Env) (s : Shared) (H : Hp) (E : XK) (p : Addr × Obj) (C : Addr) (q : D → Prop), RoomH k (A.deeper (envOfC qual (defScope st) s.heap.objs.size f cdv)) → A.guards = some [] → Zc (.ref C) none p.2 → (∃ fs, p.2.data = .fields fs) → Fs C q →
      ∃ t, ESs (cxH CX0 P w K mg base N qual (defScope st) f cdv A outer s H E p) R (defBody st) t ∧ t ⟨fun _ => q .non, q⟩ (startD N [.ptr p.1])) : FnP P w K mg base (k + 1) f fd [y] (spP K R Fs) := by
  obtain ⟨oc, od, kV, doc, pm, an, cdv, ct, osl, rfl, lk, hcd⟩ := F.ex
  refine fn_ofP lk hcd S (fun p vs H Q E ⟨C, q, e, _⟩ => by rw [e]; rfl) fun A outer s H vs Q E p hr hg ⟨C, q, e, hz, hf, o, h, fi⟩ => ?_
  subst e
  obtain ⟨t, ht, hq⟩ := hbody cdv A outer s H E p C q hr hg hz hf h
  exact ⟨_, ht, _, _, start_env (.cons (.ptr _) .nil), o, hq, fun ρ σ H' w r' e o' => fi _ _ H' w .non e o', fi⟩
structure DefE (P : Program) (w : World) (K : PySem.W.Frag) (mg : Str → Option Value) (base : Heap) (x : Str) (k : Nat) (sp : Addr × Obj → Sp) : Prop where
  ex : ∃ (f : Addr) (fd : FuncData) (ps : List Str), FnP P w K mg base k f fd ps sp ∧ mg x = some (.ref f) ∧ PySem.W.keepIn K (.ref f) = true ∧ Binds K fd ps []
end
section
variable {X : Cx} {R : Res} {pos : Pos}
open L2H in
/-- f(e), e the error, as the clause holds it -/
theorem pe_callP {k : Nat} {x : Str} {p : Pos} {e : Expr} {te : TE} {sp : Addr × Obj → Sp} {a : Addr} {oe : Obj} {pn : List (Addr × Obj)} (F : DefE X.prog X.w X.K X.mg X.base x k sp) (hr : Room k X.A) (hgd : X.A.guards = some []) (he : PE (X.suite a ((a, oe) :: pn)) e te) (hg : Gl X x := by rfl)
    (hdb : (x == ("__debug__" : Str)) = false := by decide) (hs : starEach [e] X.env = (false, eval e X.env) :: starEach [] X.env := by rfl) (hpl : (backTo pos (starEach [] X.env)).any (·.1) = false := by rfl) :
    PE (X.suite a ((a, oe) :: pn)) (.Call (.Name x p) [e] [] pos) (fun σ H Q => te σ H fun v H1 => [v] = [V.ref a] ∧ sp (a, oe) [.ref a] H1 Q E0) := by
  obtain ⟨f, fd, ps, F, hm, hk, hb⟩ := F.ex
  refine ⟨fun pins s σ H Q I h => ?_⟩
  refine wpAny_Call_Name_kw (ld_glob (X := X.suite a ((a, oe) :: pn)) I hg hm ?_ hdb)
  refine PySem.W.callWith_K (h₀ := X.base) I.ok.mod.kin hk (thn ((pa_cons he pa_nil hs).run pos pins s σ H (fun vs H1 => vs = [V.ref a] ∧ sp (a, oe) [.ref a] H1 Q E0) I ?_) fun us s1 ⟨vs, H1, I1, r, q⟩ => ⟨I1.kIn, ?_⟩) hs hpl
  · exact h
  · obtain ⟨rfl, q⟩ := q
    have P1 := I1.pin (a, oe) (List.mem_append_left _ List.mem_cons_self)
    have hpin : PinOk X.stack H1 s1 (a, oe) := ⟨P1.1, P1.2.1, fun hm => (List.mem_cons.mp (I1.stkSub a hm)).elim P1.2.2.1 P1.2.2.2.1, P1.2.2.2.2⟩
    have hl : us.length = ps.length := by rw [← r.length]; exact F.len _ _ _ _ _ q
    have b := hb s1 us I1.kIn (by rw [List.append_nil]; exact hl)
    rw [List.append_nil] at b
    refine wpAny_call (codeAny_mono (F.run (X.A.mark (some (.ref a))) X.stack s1 H1 ⟨us, []⟩ us [.ref a] Q E0 (a, oe) (roomH_mark hr _) hgd hpin I1.env0 b r q) fun r s' hq => ?_)
    cases r with
    | error e => exact hq.elim
    | ok fl =>
      cases fl with
      | ret u => exact I1.after hq
      | next => exact False.elim hq
      | brk => exact False.elim hq
      | cont => exact False.elim hq
/-- the suite: n = f(e) -/
def sHand (i j : Nat) (Fs : Addr → (D → Prop) → Prop) : Addr → Addr → TDS := fun C a e ρ => ρ[i]? = some (some (.ptr a)) ∧ Fs C (fun d => e.nx (ρ.set j (some d)))
theorem su_hand {k i j : Nat} {x y z : Str} {p p1 p2 pos3 : Pos} {Fs : Addr → (D → Prop) → Prop} (nd : X.N.Nodup) (F : DefE X.prog X.w X.K X.mg X.base x k (spP X.K R Fs)) (hr : Room k X.A) (hgd : X.A.guards = some []) (hi : X.N[i]? = some y := by rfl) (hj : X.N[j]? = some z := by rfl)
    (hv : Vis X.env.scope y := by first | exact Or.inl rfl | exact Or.inr (Or.inl rfl) | exact Or.inr (Or.inr rfl)) (hl : Loc X.env.scope z := by first | exact Or.inl rfl | exact Or.inr rfl) (hg : Gl X x := by rfl)
    (hdx : (x == ("__debug__" : Str)) = false := by decide) (hdy : (y == ("__debug__" : Str)) = false := by decide) (hcd : (y == ("__classdict__" : Str)) = false := by decide)
    (hs : starEach [.Name y p1] X.env = (false, eval (.Name y p1) X.env) :: starEach [] X.env := by rfl) (hpl : (backTo pos (starEach [] X.env)).any (·.1) = false := by rfl)
    (hsw : ∀ a pn, swapsWith (.Call (.Name x p) [.Name y p1] [] pos) (some (.Name z p2)) pos3.line (X.suite a pn).env = pure false := by intro _ _; rfl) (hfn : X.env.scope.names.lookup z = some .local := by rfl) :
    ∀ (a : Addr) (oe : Obj) (cls : Value) (d : Option Addr) (pn : List (Addr × Obj)), Zc cls d oe → (∃ vs, oe.data = .fields vs) → PSs (X.suite a ((a, oe) :: pn)) [.Assign [.Name z p2] (.Call (.Name x p) [.Name y p1] [] pos) pos3] (tSu X.K R (sHand i j Fs) a cls d) := by
  intro a oe cls d pn hz hf
  refine PSs_imp (pss_one (ps_set (X := X.suite a ((a, oe) :: pn)) nd hj hl (pe_callP F hr hgd (pe_var (X := X.suite a ((a, oe) :: pn)) hi hv hdy hcd) hg hdx hs hpl) (hsw a _) (.inr hfn))) ?_
  rintro E σ H ⟨ρ, e, C, rfl, rfl, r, o, ⟨h1, h2⟩, f⟩
  obtain ⟨v, hv1, hv2⟩ := r.get h1
  cases hv2
  refine ⟨_, hv1, rfl, C, _, rfl, hz, hf, o, h2, ?_⟩
  exact fun d v H' w rv e' o' => f.nx _ _ H' w ((r.mono e').set rv j) e' o'
/-! ### isinstance of the error -/
theorem call_isP {p : Addr × Obj} {D0 : Addr} (hp : p ∈ X.pn) (C : ExcC X.K D0) (hz : Zc (.ref D0) none p.2) (hf : ∃ vs, p.2.data = .fields vs) : CallR X (.builtin "isinstance") (rIsE X.K D0 p.1) := by
  intro pins s σ H xs us Q I r h
  obtain ⟨c, cv, b, rfl, hcv, e, q⟩ := h
  cases r with
  | cons rx rr =>
    cases rr with
    | cons rt rr =>
      cases rr
      cases rx
      obtain rfl := hcv _ rt
      obtain ⟨hget, _⟩ := I.pin p (List.mem_append_left _ hp)
      obtain ⟨fs, hv⟩ := hf
      have J : PySem.W.InstAt s.heap p.1 p.2 D0 none := by
        obtain ⟨pa, oc, od, oda, osl⟩ := p
        obtain ⟨h1, h2⟩ := hz
        dsimp only at h1 h2 hv
        subst h1 h2 hv
        exact ⟨hget, rfl, rfl, trivial⟩
      exact PySem.W.kia_one (PySem.W.handS_kitx_exc C.hg C.hk C.hs C.hd C.ha C.hn C.ht C.hm) I.kIn J e (fun z => nomatch z) fun tk => ⟨.bl b, H, I.kept (t' := tk) fun _ _ z => z, rfl, q⟩
/-- isinstance(e, c): the class of e at C -/
def isiE (K : PySem.W.Frag) (C a : Addr) : DCall := fun ds q => ∃ c cv b, ds = [.ptr a, c] ∧ ((∃ A, c = .ptr A ∧ cv = .ref A) ∨ ∃ n, c = .ty n ∧ cv = .type n) ∧ PySem.W.kitOne K (.ref C) cv = some b ∧ q (.bl b)
theorem cd_isE {C a : Addr} : CallD X.K R (rIsE X.K C a) (isiE X.K C a) := by
  rintro xs ds H q Q r o ⟨c, cv, b, rfl, hc, e, w⟩ f
  obtain ⟨x, y, rfl, rx, ry⟩ := r.two
  cases rx
  rcases hc with ⟨A, rfl, rfl⟩ | ⟨n, rfl, rfl⟩
  · cases ry
    exact ⟨.ref A, .ref A, b, rfl, fun u h => h, e, f _ _ H w (.bl _) (Ext.refl _ _) o⟩
  · cases ry
    exact ⟨.ty n, .type n, b, rfl, fun u h => h, e, f _ _ H w (.bl _) (Ext.refl _ _) o⟩
/-! ### lists -/
def lstOf (d : D) (xs : List D) : Prop := d = .lst xs ∨ d = .seq xs
theorem rep_lst {K : PySem.W.Frag} {p : List Addr} {H : Hp} {v : V} {d : D} {xs : List D} (r : Rep K p H v d) (h : lstOf d xs) : ∃ a vs, v = .ref a ∧ H a = some (.lst vs) ∧ RepAll K p H vs xs := by
  rcases h with rfl | rfl
  · cases r with | lst h _ _ ra => exact ⟨_, _, rfl, h, ra⟩
  · cases r with | seq h _ ra => exact ⟨_, _, rfl, h, ra⟩
def addL : DOp := fun dx dy q => ∃ xs ys, lstOf dx xs ∧ lstOf dy ys ∧ xs.length + ys.length ≤ sizeLine ∧ q (.seq (xs ++ ys))
theorem opd_addL {K : PySem.W.Frag} : OpD K R rCat addL := by
  rintro x y dx dy H q Q rx ry o ⟨xs, ys, hx, hy, hz, w⟩ f
  obtain ⟨a, vs, rfl, ha, ra⟩ := rep_lst rx hx
  obtain ⟨b, us, rfl, hb, rb⟩ := rep_lst ry hy
  exact ⟨a, b, vs, us, rfl, rfl, ha, hb, by rw [ra.length, rb.length]; exact hz, fun l n => f _ _ _ w (new_seq (ra.append rb) n o) (Ext.new n) (o.new n)⟩
def vSlL (t : TDE) (tl th : TDO) : TDE := fun ρ q => t ρ fun dx => tl ρ fun lo => th ρ fun hi => ∃ xs, lstOf dx xs ∧ q (.seq (Dl.cutD xs lo hi))
theorem d_sliceL {e : Expr} {lo hi : Option Expr} {t : TDE} {tl th : TDO} {p2 : Pos} (he : EE X R e t) (hl : PO X lo (tDO X.K R tl)) (hu : PO X hi (tDO X.K R th)) : EE X R (.Subscript e (.Slice lo hi none p2) pos) (vSlL t tl th) :=
  PE_imp (pe_slice slr_any he hl hu) fun σ H Q ⟨ρ, q, hr, ho, w, f⟩ => by
    refine ⟨ρ, _, hr, ho, w, fun dx x H1 w1 r1 e1 o1 => ?_⟩
    refine ⟨ρ, _, hr.mono e1, o1, w1, fun l H2 w2 e2 o2 => ?_⟩
    refine ⟨ρ, _, hr.mono (e1.trans e2), o2, w2, fun u H3 w3 e3 o3 => ?_⟩
    obtain ⟨xs, hx, w4⟩ := w3
    obtain ⟨a, vs, rfl, ha, ra⟩ := rep_lst ((r1.mono e2).mono e3) hx
    exact .inr (.inl ⟨a, vs, rfl, .of ha, fun A n => f _ _ _ w4 (new_seq (ra.cut l u) n o3) (((e1.trans e2).trans e3).trans (Ext.new n)) (o3.new n)⟩)
/-- == and != of lists of flat things -/
theorem rep_dp {K : PySem.W.Frag} {p : List Addr} {H : Hp} {v : V} {d : D} (r : Rep K p H v d) (h : flatD d = true) : Dp K H v d.py := by
  cases r <;> first | (cases h; done) | skip
  · simp only [D.py]; exact .non
  · simp only [D.py]; exact .bl _
  · simp only [D.py]; exact .int _
  · simp only [D.py]; exact .str _
theorem rep_dps {K : PySem.W.Frag} {p : List Addr} {H : Hp} : ∀ {vs : List V} {ds : List D}, RepAll K p H vs ds → ds.all flatD = true → DpAll K H vs (D.pys ds)
  | _, _, .nil, _ => by simp only [D.pys]; exact .nil
  | _, _, .cons r t, h => by
    rw [List.all_cons, Bool.and_eq_true] at h
    simp only [D.pys]
    exact .cons (rep_dp r h.1) (rep_dps t h.2)
def eqLD (neg : Bool) : DOp := fun dx dy q => ∃ xs ys, lstOf dx xs ∧ lstOf dy ys ∧ xs.all flatD = true ∧ ys.all flatD = true ∧ SeqAt.shaped (.list (D.pys xs)) = true ∧ SeqAt.shaped (.list (D.pys ys)) = true ∧
  q (.bl (if neg then !PyData.eqv (.list (D.pys xs)) (.list (D.pys ys)) else PyData.eqv (.list (D.pys xs)) (.list (D.pys ys))))
theorem opd_eqL : OpD X.K R (rEqD X.K) (eqLD false) := by
  rintro x y dx dy H q Q rx ry o ⟨xs, ys, hx, hy, f1, f2, s1, s2, w⟩ f
  obtain ⟨a, vs, rfl, ha, ra⟩ := rep_lst rx hx
  obtain ⟨b, us, rfl, hb, rb⟩ := rep_lst ry hy
  exact ⟨_, _, .lst (.of ha) (rep_dps ra f1), .lst (.of hb) (rep_dps rb f2), s1, s2, f _ _ H w (.bl _) (Ext.refl _ _) o⟩
theorem opd_neL : OpD X.K R (rNeD X.K) (eqLD true) := by
  rintro x y dx dy H q Q rx ry o ⟨xs, ys, hx, hy, f1, f2, s1, s2, w⟩ f
  obtain ⟨a, vs, rfl, ha, ra⟩ := rep_lst rx hx
  obtain ⟨b, us, rfl, hb, rb⟩ := rep_lst ry hy
  exact ⟨_, _, .lst (.of ha) (rep_dps ra f1), .lst (.of hb) (rep_dps rb f2), s1, s2, f _ _ H w (.bl _) (Ext.refl _ _) o⟩
/-! ### list.count, list.index, of flat things -/
def rCount (K : PySem.W.Frag) : V → List V → Hp → VK → Prop := fun x xs H Q => ∃ (a : Addr) (ys : List V) (y : V), x = V.ref a ∧ xs = [y] ∧ SqL K H a ys ∧ flatV y = true ∧ ys.all flatV = true ∧ Q (.int ((ys.countP fun z => eqV z y : Nat) : Int)) H
theorem countP_rel {y : V} : ∀ {ys : List V} {us : List Value}, Vals ys us → ys.all flatV = true → us.countP (eqU y) = ys.countP fun z => eqV z y
  | _, _, .nil, _ => rfl
  | _, _, .cons r t, h => by
    rw [List.all_cons, Bool.and_eq_true] at h
    rw [List.countP_cons, List.countP_cons, countP_rel t h.2, eqU_of r h.1]
theorem mt_count : MtR X "list.count" (rCount X.K) := by
  intro pins s σ H x xs v us Q I rx rxs h
  obtain ⟨a, ys, y, rfl, rfl, hs, fy, fys, q⟩ := h
  cases rx
  cases rxs with
  | cons ry rt =>
    rename_i uy ut
    cases rt
    obtain ⟨its, rv, ⟨⟨cls, dd, data, sl⟩, n, ho, hc, hdn, hd⟩, hlen⟩ := I.list hs
    simp only at hc hd
    subst hc hd
    refine call_meets PySem.F.slot_list_count ⟨_, ho, rfl⟩ PySem.F.entry_list_count (PySem.F.args_list_count_2 _ _)
      (SeqAt.list_countAt a its.toArray n dd sl uy (eqU y)) ⟨ho, fun u' hu' => mem_eqAt ry fy rv fys u' (by simpa using hu'), ?_⟩
    refine ⟨.int ((ys.countP fun z => eqV z y : Nat) : Int), H, I.tok _, ⟨s.toks, ?_⟩, q⟩
    rw [← countP_rel rv fys]
def vCount (t te : TDE) : TDE := fun ρ q => t ρ fun d => ∃ xs, lstOf d xs ∧ te ρ fun y => xs.all flatD = true ∧ flatD y = true ∧ q (.int (((xs.map dvOf).countP fun z => eqV z (dvOf y) : Nat) : Int))
def vIndex (t te : TDE) : TDE := fun ρ q => t ρ fun d => ∃ xs, lstOf d xs ∧ te ρ fun y => xs.all flatD = true ∧ flatD y = true ∧ ∃ (j : Nat) (z : V), (xs.map dvOf)[j]? = some z ∧ eqV z (dvOf y) = true ∧ (∀ (m : Nat) (z' : V), m < j → (xs.map dvOf)[m]? = some z' → eqV z' (dvOf y) = false) ∧ q (.int (j : Nat))
theorem flats {K : PySem.W.Frag} {p : List Addr} {H : Hp} {vs : List V} {ds : List D} (r : RepAll K p H vs ds) (h : ds.all flatD = true) : vs = ds.map dvOf ∧ vs.all flatV = true := by
  obtain ⟨rfl, h2⟩ := flat_all r h
  exact ⟨rfl, h2⟩
theorem d_count {o e : Expr} {apos : Pos} {t te : TDE} (ho : EE X R o t) (he : EE X R e te) (hs : starEach [e] X.env = (false, eval e X.env) :: starEach [] X.env := by rfl) (hbase : attributeBase o "count" X.env (eval o X.env) = eval o X.env := by rfl)
    (hfew : ((backTo pos (starEach [e] X.env)).all (fun x => !x.1) && (backToKw pos (keywordEach [] X.env)).all (fun x => x.1.isSome) && decide ([e].length + ([] : List Keyword).length + (if ([] : List Keyword).isEmpty then 0 else 1) < 30)) = true := by rfl)
    (hline : (apos.endLine == pos.line) = true := by rfl) (hpl : (backTo pos (starEach [] X.env)).any (·.1) = false := by rfl) : EE X R (.Call (.Attribute o "count" apos) [e] [] pos) (vCount t te) :=
  PE_imp (pe_bm PySem.F.plainAttrs_list PySem.F.slot_list_count PySem.F.type_list_count mt_count ho (pa_cons he pa_nil hs) hbase hfew hline hs hpl) fun σ H Q ⟨ρ, q, r, o, w, f⟩ => by
    refine ⟨ρ, _, r, o, w, ?_⟩
    rintro d v H1 ⟨xs, hx, w1⟩ r1 e1 o1
    obtain ⟨a, vs, rfl, ha, ra⟩ := rep_lst r1 hx
    refine ⟨.inl ⟨rfl, vs, .of ha⟩, ρ, _, r.mono e1, o1, w1, ?_⟩
    rintro y u H2 ⟨f1, f2, w2⟩ r2 e2 o2
    obtain ⟨rfl, g1⟩ := flats ra f1
    obtain ⟨rfl, g2⟩ := flat_eq r2 f2
    obtain ⟨a', vs', ea, ha', ra'⟩ := rep_lst (r1.mono e2) hx
    cases ea
    obtain ⟨rfl, _⟩ := flats ra' f1
    exact ⟨a, _, _, rfl, rfl, .of ha', g2, g1, f _ _ H2 w2 (.int _) (e1.trans e2) o2⟩
theorem d_index {o e : Expr} {apos : Pos} {t te : TDE} (ho : EE X R o t) (he : EE X R e te) (hs : starEach [e] X.env = (false, eval e X.env) :: starEach [] X.env := by rfl) (hbase : attributeBase o "index" X.env (eval o X.env) = eval o X.env := by rfl)
    (hfew : ((backTo pos (starEach [e] X.env)).all (fun x => !x.1) && (backToKw pos (keywordEach [] X.env)).all (fun x => x.1.isSome) && decide ([e].length + ([] : List Keyword).length + (if ([] : List Keyword).isEmpty then 0 else 1) < 30)) = true := by rfl)
    (hline : (apos.endLine == pos.line) = true := by rfl) (hpl : (backTo pos (starEach [] X.env)).any (·.1) = false := by rfl) : EE X R (.Call (.Attribute o "index" apos) [e] [] pos) (vIndex t te) :=
  PE_imp (pe_bm PySem.F.plainAttrs_list PySem.F.slot_list_index PySem.F.type_list_index mt_index ho (pa_cons he pa_nil hs) hbase hfew hline hs hpl) fun σ H Q ⟨ρ, q, r, o, w, f⟩ => by
    refine ⟨ρ, _, r, o, w, ?_⟩
    rintro d v H1 ⟨xs, hx, w1⟩ r1 e1 o1
    obtain ⟨a, vs, rfl, ha, ra⟩ := rep_lst r1 hx
    refine ⟨.inl ⟨rfl, vs, .of ha⟩, ρ, _, r.mono e1, o1, w1, ?_⟩
    rintro y u H2 ⟨f1, f2, j, z, h1, h2, h3, w2⟩ r2 e2 o2
    obtain ⟨rfl, g1⟩ := flats ra f1
    obtain ⟨rfl, g2⟩ := flat_eq r2 f2
    obtain ⟨a', vs', ea, ha', ra'⟩ := rep_lst (r1.mono e2) hx
    cases ea
    obtain ⟨rfl, _⟩ := flats ra' f1
    exact ⟨a, _, _, j, z, rfl, rfl, .of ha', g2, g1, h1, h2, h3, f _ _ H2 w2 (.int _) (e1.trans e2) o2⟩
/-- y = [elt for x in iter] -/
theorem s_setLc {i j : Nat} {x y : Str} {px py spos : Pos} {elt iter : Expr} {scope : Scope} {w : TDI} {te : TDE} (hc : X.calm = true) (nd : X.N.Nodup) (hi : EI X R (.Name x px) iter w) (ok : BlkOk X.N X.env.scope scope [(x, i)])
    (hg : ∀ (s : Shared) (H : Hp) (C : Addr) (cl : List (Str × Addr)) (fp : List Addr), PG (X.blk s H scope (compEnvC scope cl C X.env) fp) (.Name x px) (gName i))
    (he : ∀ (s : Shared) (H : Hp) (C : Addr) (cl : List (Str × Addr)) (fp : List Addr) (A : Addr), EE (X.blk s H scope (compEnvC scope cl C X.env) fp) (R.add A) elt te) (hs : ∀ x, foldedSetIterable iter X.env x = pure x := by intro _; rfl)
    (hy : X.N[j]? = some y := by rfl) (hyl : X.env.scope.names.lookup y = some .local := by rfl) (hk : X.env.scope.kind = .function := by rfl) (hl : (py.line == pos.line) = true := by rfl) (ha : (scope.names.any fun (n, k) => n == y && (k == .local || k == .cell)) = false := by decide +kernel) :
    ES X R (.Assign [.Name y py] (.ListComp elt [⟨.Name x px, iter, [], 0⟩] scope pos) spos) (sSet j (vLc i w te)) :=
  PS_imp (ps_setLc (own := [(x, i)]) (g := gName i) (tt := tYes) (te := tEl X.K R te) hc nd hy hyl (sw_true hk hyl hl ha) hi ok hg (fun _ _ _ _ _ => pts_nil) (fun s H C cl fp => ⟨fun pins s' σ H' Q I ⟨A, w⟩ => (he s H C cl fp A).run pins s' σ H' Q I w⟩) hs) fun E σ H ⟨ρ, en, r, o, w, f⟩ =>
    lc_ok σ H _ ⟨ρ, _, r, o, w, fun d v H1 w1 r1 e1 o1 => f.nx _ _ H1 w1 ((r.mono e1).set r1 j) e1 o1⟩
end
end Dl

set_option Elab.async false
set_option linter.all false
set_option maxRecDepth 100000
set_option maxHeartbeats 4000000
namespace Dl
open PySem PySem.Spec PyProof.Rows L2
/-! ## more of texts -/
section
variable {X : Cx} {R : Res} {pos : Pos}
/-- a text's method of one text: g tells the answer -/
def vMt (op : Str → Str → (D → Prop) → Prop) (t te : TDE) : TDE := fun ρ q => t ρ fun d => ∃ a, d = .str a ∧ te ρ fun y => ∃ b, y = .str b ∧ op a b q
theorem d_mtS {name : Str} {id : String} {r : V → List V → Hp → VK → Prop} {op : Str → Str → (D → Prop) → Prop} {o e : Expr} {apos : Pos} {t te : TDE} (slot : Slot "str" name id) (hty : typeOf (.builtin id) = pure (.type "method_descriptor")) (hm : MtR X id r)
    (hop : ∀ (a b : Str) H q Q, Pot R H → op a b q → Fin X.K R H q Q → r (.str a) [.str b] H Q) (ho : EE X R o t) (he : EE X R e te) (hs : starEach [e] X.env = (false, eval e X.env) :: starEach [] X.env := by rfl) (hbase : attributeBase o name X.env (eval o X.env) = eval o X.env := by rfl)
    (hfew : ((backTo pos (starEach [e] X.env)).all (fun x => !x.1) && (backToKw pos (keywordEach [] X.env)).all (fun x => x.1.isSome) && decide ([e].length + ([] : List Keyword).length + (if ([] : List Keyword).isEmpty then 0 else 1) < 30)) = true := by rfl)
    (hline : (apos.endLine == pos.line) = true := by rfl) (hpl : (backTo pos (starEach [] X.env)).any (·.1) = false := by rfl) : EE X R (.Call (.Attribute o name apos) [e] [] pos) (vMt op t te) :=
  PE_imp (pe_bm PySem.F.plainAttrs_str slot hty hm ho (pa_cons he pa_nil hs) hbase hfew hline hs hpl) fun σ H Q ⟨ρ, q, r, o, w, f⟩ => by
    refine ⟨ρ, _, r, o, w, ?_⟩
    rintro d v H1 ⟨a, rfl, w1⟩ r1 e1 o1
    cases r1
    refine ⟨rfl, ρ, _, r.mono e1, o1, w1, ?_⟩
    rintro y u H2 ⟨b, rfl, w2⟩ r2 e2 o2
    cases r2
    exact hop a b H2 q Q o2 w2 (f.step (e1.trans e2))
theorem new_strs {K : PySem.W.Frag} {H : Hp} {a : Addr} (ys : List Str) (n : H a = none) (o : Pot R H) : Rep K R.av (upd H a (.lst (ys.map V.str))) (.ref a) (.seq (ys.map D.str)) := by
  refine new_seq ?_ n o
  induction ys with
  | nil => exact .nil
  | cons y ys ih => exact .cons (.str y) ih
def findS : Str → Str → (D → Prop) → Prop := fun a b q => q (.int (Txt.find a b))
def splitS : Str → Str → (D → Prop) → Prop := fun a b q => (b.length == 0) = false ∧ a.length + 2 ≤ sizeLine ∧ q (.seq ((Txt.split a b).map D.str))
def startS : Str → Str → (D → Prop) → Prop := fun a b q => q (.bl (Txt.startswith a b))
def endS : Str → Str → (D → Prop) → Prop := fun a b q => q (.bl (Txt.endswith a b))
def countS : Str → Str → (D → Prop) → Prop := fun a b q => q (.int (Txt.count a b))
theorem op_find (a b : Str) (H : Hp) (q : D → Prop) (Q : VK) (o : Pot R H) (w : findS a b q) (f : Fin X.K R H q Q) : ∃ a' b', V.str a = .str a' ∧ [V.str b] = [.str b'] ∧ Q (.int (Txt.find a' b')) H := ⟨a, b, rfl, rfl, f _ _ H w (.int _) (Ext.refl _ _) o⟩
theorem op_start (a b : Str) (H : Hp) (q : D → Prop) (Q : VK) (o : Pot R H) (w : startS a b q) (f : Fin X.K R H q Q) : ∃ a' b', V.str a = .str a' ∧ [V.str b] = [.str b'] ∧ Q (.bl (Txt.startswith a' b')) H := ⟨a, b, rfl, rfl, f _ _ H w (.bl _) (Ext.refl _ _) o⟩
theorem op_end (a b : Str) (H : Hp) (q : D → Prop) (Q : VK) (o : Pot R H) (w : endS a b q) (f : Fin X.K R H q Q) : ∃ a' b', V.str a = .str a' ∧ [V.str b] = [.str b'] ∧ Q (.bl (Txt.endswith a' b')) H := ⟨a, b, rfl, rfl, f _ _ H w (.bl _) (Ext.refl _ _) o⟩
theorem op_countS (a b : Str) (H : Hp) (q : D → Prop) (Q : VK) (o : Pot R H) (w : countS a b q) (f : Fin X.K R H q Q) : ∃ a' b', V.str a = .str a' ∧ [V.str b] = [.str b'] ∧ Q (.int (Txt.count a' b')) H := ⟨a, b, rfl, rfl, f _ _ H w (.int _) (Ext.refl _ _) o⟩
theorem op_split (a b : Str) (H : Hp) (q : D → Prop) (Q : VK) (o : Pot R H) (w : splitS a b q) (f : Fin X.K R H q Q) : ∃ a' b', V.str a = .str a' ∧ [V.str b] = [.str b'] ∧ (b'.length == 0) = false ∧ a'.length + 2 ≤ sizeLine ∧ rNewStrs (Txt.split a' b') H Q :=
  ⟨a, b, rfl, rfl, w.1, w.2.1, fun p n => f _ _ _ w.2.2 (new_strs _ n o) (Ext.new n) (o.new n)⟩
/-! ### str of an int, of a text -/
def strI : DCall := fun ds q => ∃ i, ds = [.int i] ∧ i.natAbs.log2 < 1920 ∧ q (.str (toString i))
theorem cd_strI {K : PySem.W.Frag} : CallD K R (fun xs H Q => ∃ i, xs = [.int i] ∧ i.natAbs.log2 < 1920 ∧ Q (.str (toString i)) H) strI := by
  rintro xs ds H q Q r o ⟨i, rfl, hi, w⟩ f
  obtain ⟨x, rfl, rx⟩ := r.one
  cases rx
  exact ⟨i, rfl, hi, f _ _ H w (.str _) (Ext.refl _ _) o⟩
def intS : DCall := fun ds q => ∃ a n, ds = [.str a] ∧ PySem.intText? a = some n ∧ a.length ≤ 640 ∧ q (.int n)
theorem cd_intS {K : PySem.W.Frag} : CallD K R (fun xs H Q => ∃ a n, xs = [.str a] ∧ PySem.intText? a = some n ∧ a.length ≤ 640 ∧ Q (.int n) H) intS := by
  rintro xs ds H q Q r o ⟨a, n, rfl, hn, ha, w⟩ f
  obtain ⟨x, rfl, rx⟩ := r.one
  cases rx
  exact ⟨a, n, rfl, hn, ha, f _ _ H w (.int _) (Ext.refl _ _) o⟩
/-! ### is None -/
def isNonD : D → Bool | .non => true | _ => false
theorem rep_non {K : PySem.W.Frag} {p : List Addr} {H : Hp} {v : V} {d : D} (r : Rep K p H v d) : decide (v = .non) = isNonD d := by
  cases r <;> first | rfl | exact decide_eq_false (fun e => nomatch e)
def isND (neg : Bool) : DOp := fun dx dy q => dy = .non ∧ q (.bl (if neg then !isNonD dx else isNonD dx))
theorem opd_isN {K : PySem.W.Frag} : OpD K R (fun x y H Q => y = .non ∧ Q (.bl (decide (x = .non))) H) (isND false) := by
  rintro x y dx dy H q Q rx ry o ⟨rfl, w⟩ f
  cases ry
  exact ⟨rfl, by rw [rep_non rx]; exact f _ _ H w (.bl _) (Ext.refl _ _) o⟩
theorem opd_notN {K : PySem.W.Frag} : OpD K R (fun x y H Q => y = .non ∧ Q (.bl (!decide (x = .non))) H) (isND true) := by
  rintro x y dx dy H q Q rx ry o ⟨rfl, w⟩ f
  cases ry
  exact ⟨rfl, by rw [rep_non rx]; exact f _ _ H w (.bl _) (Ext.refl _ _) o⟩
end
/-! ### == and != of plain data, however deep (no dicts) -/
mutual
/-- no dicts -/
def D.nod : D → Bool
  | .tup xs => D.nods xs
  | .lst xs => D.nods xs
  | .emp => false
  | .ptr _ => false
  | .seq _ => false
  | .ty _ => false
  | _ => true
def D.nods : List D → Bool
  | [] => true
  | x :: xs => D.nod x && D.nods xs
end
section
variable {K : PySem.W.Frag} {p : List Addr} {H : Hp}
mutual
theorem Rep.deep : ∀ (d : D) (v : V), d.nod = true → Rep K p H v d → Dp K H v d.py
  | .non, _, _, r => by cases r; simp only [D.py]; exact .non
  | .bl _, _, _, r => by cases r; simp only [D.py]; exact .bl _
  | .int _, _, _, r => by cases r; simp only [D.py]; exact .int _
  | .str _, _, _, r => by cases r; simp only [D.py]; exact .str _
  | .tup xs, _, h, r => by
    simp only [D.nod] at h
    cases r with
    | tup hs ra => simp only [D.py]; exact .tup hs.sq (Rep.deeps xs _ h ra)
  | .lst xs, _, h, r => by
    simp only [D.nod] at h
    cases r with
    | lst hs _ _ ra => simp only [D.py]; exact .lst (.of hs) (Rep.deeps xs _ h ra)
  | .emp, _, h, _ => by simp only [D.nod] at h; cases h
  | .ptr _, _, h, _ => by simp only [D.nod] at h; cases h
  | .seq _, _, h, _ => by simp only [D.nod] at h; cases h
  | .ty _, _, h, _ => by simp only [D.nod] at h; cases h
theorem Rep.deeps : ∀ (ds : List D) (vs : List V), D.nods ds = true → RepAll K p H vs ds → DpAll K H vs (D.pys ds)
  | [], _, _, r => by cases r; simp only [D.pys]; exact .nil
  | d :: ds, _, h, r => by
    simp only [D.nods, Bool.and_eq_true] at h
    cases r with
    | cons r t => simp only [D.pys]; exact .cons (Rep.deep d _ h.1 r) (Rep.deeps ds _ h.2 t)
end
end
section
variable {X : Cx} {R : Res}
def eqPD (neg : Bool) : DOp := fun dx dy q => dx.nod = true ∧ dy.nod = true ∧ SeqAt.shaped dx.py = true ∧ SeqAt.shaped dy.py = true ∧ q (.bl (if neg then !PyData.eqv dx.py dy.py else PyData.eqv dx.py dy.py))
theorem opd_eqP : OpD X.K R (rEqD X.K) (eqPD false) := by
  rintro x y dx dy H q Q rx ry o ⟨n1, n2, s1, s2, w⟩ f
  exact ⟨_, _, Rep.deep _ _ n1 rx, Rep.deep _ _ n2 ry, s1, s2, f _ _ H w (.bl _) (Ext.refl _ _) o⟩
theorem opd_neP : OpD X.K R (rNeD X.K) (eqPD true) := by
  rintro x y dx dy H q Q rx ry o ⟨n1, n2, s1, s2, w⟩ f
  exact ⟨_, _, Rep.deep _ _ n1 rx, Rep.deep _ _ n2 ry, s1, s2, f _ _ H w (.bl _) (Ext.refl _ _) o⟩
end
end Dl

set_option Elab.async false
set_option linter.all false
set_option maxRecDepth 100000
set_option maxHeartbeats 4000000
/-! rsplit at the last two places of a sign -/
namespace Dl
open PySem PySem.Spec PyProof.Rows PySem.StrLaws PySem.Builtin PySem.Builtin.Str L2 TL
section
variable {s : Str} {c lim : Nat}
theorem one_len : (⟨#[c]⟩ : Str).length = 1 := rfl
theorem at_c {i : Nat} : At s ⟨#[c]⟩ s.length i ↔ s.cps.toList[i]? = some c := subAt_one s c i
theorem rrun_none : ∀ (m k : Nat) (st : Array Nat × Nat), st.snd ≤ s.length → (∀ j, k ≤ j → j < k + m → ¬ At s ⟨#[c]⟩ s.length (s.length - j)) → (forIn (List.range' k m) st (occRBody s ⟨#[c]⟩ lim)).run = st
  | 0, k, st, _, _ => rfl
  | m + 1, k, st, hs, hn => by
    rw [List.range'_succ, List.forIn_cons]
    unfold occRBody
    split
    · rename_i hc
      have h1 := hc.1.2
      rw [one_len] at h1
      exact absurd ⟨by rw [one_len]; omega, hc.2⟩ (hn k (Nat.le_refl _) (by omega))
    · exact rrun_none m (k + 1) st hs fun j h1 h2 => hn j (by omega) (by omega)
theorem rrun_full : ∀ (m k : Nat) (st : Array Nat × Nat), lim ≤ st.fst.size → (forIn (List.range' k m) st (occRBody s ⟨#[c]⟩ lim)).run = st
  | 0, k, st, _ => rfl
  | m + 1, k, st, hs => by
    rw [List.range'_succ, List.forIn_cons]
    unfold occRBody
    split
    · rename_i hc
      have h1 := hc.1.1
      omega
    · exact rrun_full m (k + 1) st hs
theorem rrun_to : ∀ (m k r : Nat) (st : Array Nat × Nat), st.fst.size < lim → st.snd ≤ s.length → (∀ j, k ≤ j → j < k + m → ¬ At s ⟨#[c]⟩ s.length (s.length - j)) → At s ⟨#[c]⟩ s.length (s.length - (k + m)) → s.length - (k + m) + 1 ≤ st.snd →
    (forIn (List.range' k (m + 1 + r)) st (occRBody s ⟨#[c]⟩ lim)).run = (forIn (List.range' (k + m + 1) r) (st.fst.push (s.length - (k + m)), s.length - (k + m)) (occRBody s ⟨#[c]⟩ lim)).run
  | 0, k, r, st, hl, hs, hn, ha, hf => by
    have e : 0 + 1 + r = r + 1 := by omega
    rw [e, List.range'_succ, List.forIn_cons]
    unfold occRBody
    rw [if_pos ⟨⟨hl, hf⟩, ha.2⟩]
    rfl
  | m + 1, k, r, st, hl, hs, hn, ha, hf => by
    have e : m + 1 + 1 + r = (m + 1 + r) + 1 := by omega
    have e2 : k + (m + 1) = (k + 1) + m := by omega
    have go := rrun_to m (k + 1) r st hl hs (fun j h1 h2 => hn j (by omega) (by omega)) (by rw [← e2]; exact ha) (by rw [← e2]; exact hf)
    rw [← e2] at go
    rw [e, List.range'_succ, List.forIn_cons, ← go]
    unfold occRBody
    split
    · rename_i hc
      have h1 := hc.1.2
      rw [one_len] at h1
      exact absurd ⟨by rw [one_len]; omega, hc.2⟩ (hn k (Nat.le_refl _) (by omega))
    · rfl
end
theorem tl_one (c : Nat) : tl (⟨#[c]⟩ : Str) = [c] := rfl
section
variable {x : Str} {c : Nat}
theorem not_at {i : Nat} (h : (tl x)[i]? ≠ some c) : ¬ At x ⟨#[c]⟩ x.length i := fun q => h (at_c.mp q)
/-- where the sign stands last -/
theorem occR2 {a b1 b2 : List Nat} (e : tl x = a ++ (c :: (b1 ++ (c :: b2)))) (n1 : c ∉ b1) (n2 : c ∉ b2) : occurrencesFromRight x ⟨#[c]⟩ 2 = [a.length, a.length + 1 + b1.length] := by
  have hl : x.length = a.length + 1 + b1.length + 1 + b2.length := by
    rw [len_tl x, e]; simp; omega
  have g2 : ∀ j, a.length + 1 + b1.length < j → (tl x)[j]? ≠ some c := fun j hj q => by
    rw [e] at q
    have e' : a ++ (c :: (b1 ++ (c :: b2))) = (a ++ (c :: (b1 ++ [c]))) ++ b2 := by simp
    rw [e', List.getElem?_append_right (by simp; omega)] at q
    exact n2 (List.mem_of_getElem? q)
  have g1 : ∀ j, a.length < j → j < a.length + 1 + b1.length → (tl x)[j]? ≠ some c := fun j hj hj2 q => by
    rw [e] at q
    have e' : a ++ (c :: (b1 ++ (c :: b2))) = ((a ++ [c]) ++ b1) ++ (c :: b2) := by simp
    rw [e', List.getElem?_append_left (by simp; omega), List.getElem?_append_right (by simp; omega)] at q
    exact n1 (List.mem_of_getElem? q)
  have at2 : At x ⟨#[c]⟩ x.length (a.length + 1 + b1.length) := at_c.mpr (by
    show (tl x)[_]? = _
    rw [e]
    have e' : a ++ (c :: (b1 ++ (c :: b2))) = (a ++ (c :: b1)) ++ (c :: b2) := by simp
    rw [e', List.getElem?_append_right (by simp; omega)]
    have : a.length + 1 + b1.length - (a ++ c :: b1).length = 0 := by simp; omega
    rw [this]; rfl)
  have at1 : At x ⟨#[c]⟩ x.length a.length := at_c.mpr (by
    show (tl x)[_]? = _
    rw [e, List.getElem?_append_right (Nat.le_refl _), Nat.sub_self]; rfl)
  rw [occR_eq]
  have r1 := rrun_to (s := x) (c := c) (lim := 2) b2.length.succ 0 (a.length + b1.length + 1) (#[], x.length) (by show 0 < 2; omega) (Nat.le_refl _)
    (fun j _ h2 => not_at (g2 _ (by omega))) (by
      have : x.length - (0 + b2.length.succ) = a.length + 1 + b1.length := by omega
      rw [this]; exact at2) (by show _ ≤ x.length; omega)
  have e0 : x.length + 1 = b2.length.succ + 1 + (a.length + b1.length + 1) := by omega
  rw [e0, r1]
  have e1 : x.length - (0 + b2.length.succ) = a.length + 1 + b1.length := by omega
  rw [e1]
  have r2 := rrun_to (s := x) (c := c) (lim := 2) b1.length (0 + b2.length.succ + 1) a.length (#[a.length + 1 + b1.length], a.length + 1 + b1.length) (by show 1 < 2; omega) (by show a.length + 1 + b1.length ≤ _; omega)
    (fun j h1 h2 => not_at (g1 _ (by omega) (by omega))) (by
      have : x.length - (0 + b2.length.succ + 1 + b1.length) = a.length := by omega
      rw [this]; exact at1) (by show _ ≤ a.length + 1 + b1.length; omega)
  have e2 : a.length + b1.length + 1 = b1.length + 1 + a.length := by omega
  have e3 : x.length - (0 + b2.length.succ + 1 + b1.length) = a.length := by omega
  rw [e3] at r2
  rw [e2]
  show (forIn (List.range' (0 + b2.length.succ + 1) (b1.length + 1 + a.length)) ((#[a.length + 1 + b1.length], a.length + 1 + b1.length) : Array Nat × Nat) (occRBody x ⟨#[c]⟩ 2)).run.fst.toList.reverse = _
  rw [r2, rrun_full _ _ _ (by show 2 ≤ 2; omega)]
  rfl
theorem occR1 {a b : List Nat} (e : tl x = a ++ (c :: b)) (n1 : c ∉ a) (n2 : c ∉ b) : occurrencesFromRight x ⟨#[c]⟩ 2 = [a.length] := by
  have hl : x.length = a.length + 1 + b.length := by
    rw [len_tl x, e]; simp; omega
  have g2 : ∀ j, a.length < j → (tl x)[j]? ≠ some c := fun j hj q => by
    rw [e] at q
    have e' : a ++ (c :: b) = (a ++ [c]) ++ b := by simp
    rw [e', List.getElem?_append_right (by simp; omega)] at q
    exact n2 (List.mem_of_getElem? q)
  have g1 : ∀ j, j < a.length → (tl x)[j]? ≠ some c := fun j hj q => by
    rw [e, List.getElem?_append_left hj] at q
    exact n1 (List.mem_of_getElem? q)
  have at1 : At x ⟨#[c]⟩ x.length a.length := at_c.mpr (by
    show (tl x)[_]? = _
    rw [e, List.getElem?_append_right (Nat.le_refl _), Nat.sub_self]; rfl)
  rw [occR_eq]
  have r1 := rrun_to (s := x) (c := c) (lim := 2) b.length.succ 0 a.length (#[], x.length) (by show 0 < 2; omega) (Nat.le_refl _)
    (fun j _ h2 => not_at (g2 _ (by omega))) (by
      have : x.length - (0 + b.length.succ) = a.length := by omega
      rw [this]; exact at1) (by show _ ≤ x.length; omega)
  have e0 : x.length + 1 = b.length.succ + 1 + a.length := by omega
  have e1 : x.length - (0 + b.length.succ) = a.length := by omega
  rw [e1] at r1
  rw [e0, r1, rrun_none _ _ _ (by show a.length ≤ _; omega) (fun j h1 h2 => not_at (g1 _ (by omega)))]
  rfl
theorem occR0 (n : c ∉ tl x) : occurrencesFromRight x ⟨#[c]⟩ 2 = [] := by
  rw [occR_eq, rrun_none _ _ _ (Nat.le_refl _) (fun j h1 h2 => not_at fun q => n (List.mem_of_getElem? q))]
  rfl
theorem kind_c (hc : c < 256) : ¬ strKind x < strKind ⟨#[c]⟩ := kind_ok (by simp [hc])
theorem lim2 : limitOf x 2 = 2 := rfl
theorem rsplit2 {a b1 b2 : Str} (hc : c < 256) (e : x = a ++ ⟨#[c]⟩ ++ b1 ++ ⟨#[c]⟩ ++ b2) (n1 : c ∉ tl b1) (n2 : c ∉ tl b2) : Txt.rsplitMax x ⟨#[c]⟩ 2 = [a, b1, b2] := by
  have et : tl x = tl a ++ (c :: (tl b1 ++ (c :: tl b2))) := by rw [e]; simp [tl_append, tl_one]
  unfold Txt.rsplitMax
  have hl : x.length = (tl a).length + 1 + (tl b1).length + 1 + (tl b2).length := by
    rw [len_tl x, et]; simp; omega
  rw [if_neg (by
    intro q
    simp only [Bool.or_eq_true, decide_eq_true_eq] at q
    rcases q with q | q
    · rw [one_len] at q; omega
    · exact kind_c hc q), lim2, occR2 et n1 n2, if_neg (by simp), partsBetween_eq]
  show [strSub x 0 (tl a).length, strSub x ((tl a).length + 1) ((tl a).length + 1 + (tl b1).length), strSub x ((tl a).length + 1 + (tl b1).length + 1) x.length] = _
  have s1 : strSub x 0 (tl a).length = a := ext_tl (by rw [tl_strSub, et, List.drop_zero, Nat.sub_zero, List.take_left])
  have s2 : strSub x ((tl a).length + 1) ((tl a).length + 1 + (tl b1).length) = b1 := ext_tl (by
    rw [tl_strSub, et]
    have e' : tl a ++ (c :: (tl b1 ++ (c :: tl b2))) = (tl a ++ [c]) ++ (tl b1 ++ (c :: tl b2)) := by simp
    have e2 : (tl a).length + 1 = (tl a ++ [c]).length := by simp
    rw [e', e2, List.drop_left, Nat.add_sub_cancel_left, List.take_left])
  have s3 : strSub x ((tl a).length + 1 + (tl b1).length + 1) x.length = b2 := ext_tl (by
    rw [tl_strSub_end, et]
    have e' : tl a ++ (c :: (tl b1 ++ (c :: tl b2))) = (tl a ++ (c :: (tl b1 ++ [c]))) ++ tl b2 := by simp
    have e2 : (tl a).length + 1 + (tl b1).length + 1 = (tl a ++ (c :: (tl b1 ++ [c]))).length := by simp; omega
    rw [e', e2, List.drop_left])
  rw [s1, s2, s3]
/-- where it stands less than twice -/
theorem rsplit2_few (hc : c < 256) (h : (tl x).count c < 2) : (Txt.rsplitMax x ⟨#[c]⟩ 2).length < 3 := by
  unfold Txt.rsplitMax
  split
  · show 1 < 3; omega
  rw [lim2]
  split
  · show 1 < 3; omega
  rw [length_partsBetween]
  by_cases hm : c ∈ tl x
  · obtain ⟨a, b, e⟩ := List.append_of_mem hm
    have ca : (tl x).count c = a.count c + (1 + b.count c) := by rw [e]; simp; omega
    rw [occR1 e (fun q => by have := List.count_pos_iff.mpr q; omega) (fun q => by have := List.count_pos_iff.mpr q; omega)]
    show 1 + 1 < 3
    omega
  · rw [occR0 hm]
    show 0 + 1 < 3
    omega
end
end Dl

set_option Elab.async false
set_option linter.all false
set_option maxRecDepth 100000
set_option maxHeartbeats 4000000
namespace Dl
open PySem PySem.Spec PyProof.Rows L2
/-! ## f-strings, op=, partition, rsplit, enumerate over a text, a statement that is not reached -/
section
variable {X : Cx} {R : Res} {W : WX} {pos : Pos}
def vFmt (t : TDE) : TDE := fun ρ q => t ρ fun d => (∃ y : Str, d = .str y ∧ y.length ≤ sizeLine ∧ q (.str y)) ∨ ∃ i : Int, d = .int i ∧ i.natAbs.log2 < 1920 ∧ q (.str (toString i))
theorem d_fmt {e : Expr} {t : TDE} (he : EE X R e t) : EE X R (.FormattedValue e (-1) none pos) (vFmt t) := PE_imp (pe_fmt he) fun σ H Q ⟨ρ, q, r, o, w, f⟩ => by
  refine ⟨ρ, _, r, o, w, ?_⟩
  rintro d v H1 w1 r1 e1 o1
  rcases w1 with ⟨y, rfl, hz, w1⟩ | ⟨i, rfl, hz, w1⟩
  · cases r1
    exact .inl ⟨y, rfl, hz, f _ _ H1 w1 (.str _) e1 o1⟩
  · cases r1
    exact .inr ⟨i, rfl, hz, f _ _ H1 w1 (.str _) e1 o1⟩
/-- the parts, one after another -/
def vJs : List TDE → Str → TDE
  | [], acc, _, q => q (.str acc)
  | t :: ts, acc, ρ, q => t ρ fun d => ∃ y : Str, d = .str y ∧ (acc ++ y).length ≤ sizeLine ∧ vJs ts (acc ++ y) ρ q
inductive EJ (X : Cx) (R : Res) : List Expr → List TDE → Prop where
  | nil : EJ X R [] []
  | cons {e : Expr} {t : TDE} {es : List Expr} {ts : List TDE} (h : EE X R e t) (r : EJ X R es ts) : EJ X R (e :: es) (t :: ts)
theorem EJ.pj {es : List Expr} {ts : List TDE} (h : EJ X R es ts) : PJ X es (ts.map (tD X.K R)) := by
  induction h with
  | nil => exact .nil
  | cons h r ih => exact .cons h ih
theorem js_ok {K : PySem.W.Frag} : ∀ (ts : List TDE) (acc : Str) (σ : L2.St) (ρ : DE) (H : Hp) (q : D → Prop) (Q : VK), REnv K R.av H σ ρ → Pot R H → vJs ts acc ρ q → Fin K R H q Q → tJs (ts.map (tD K R)) acc σ H (fun out H1 => Q (.str out) H1)
  | [], acc, σ, ρ, H, q, Q, r, o, w, f => f _ _ H w (.str _) (Ext.refl _ _) o
  | t :: ts, acc, σ, ρ, H, q, Q, r, o, w, f => by
    refine ⟨ρ, _, r, o, w, ?_⟩
    rintro d v H1 ⟨y, rfl, hz, w1⟩ r1 e1 o1
    cases r1
    exact ⟨y, rfl, hz, js_ok ts _ σ ρ H1 q Q (r.mono e1) o1 w1 (f.step e1)⟩
theorem d_joined {v1 v2 : Expr} {rest : List Expr} {ts : List TDE} (h : EJ X R (v1 :: v2 :: rest) ts) : EE X R (.JoinedStr (v1 :: v2 :: rest) pos) (vJs ts Str.empty) :=
  PE_imp (pe_joined h.pj) fun σ H Q ⟨ρ, q, r, o, w, f⟩ => js_ok ts _ σ ρ H q Q r o w f
theorem d_joined1 {e : Expr} {t : TDE} (h : EE X R e t) : EE X R (.JoinedStr [e] pos) t := pe_joined1 h
/-! ### x += e -/
def sAug (i : Nat) (t : TDE) : TDS := fun e ρ => ∃ a : Int, ρ[i]? = some (some (.int a)) ∧ t ρ fun d => ∃ b : Int, d = .int b ∧ e.nx (ρ.set i (some (.int (a + b))))
theorem s_aug {i : Nat} {x : Str} {e : Expr} {t : TDE} {px : Pos} (nd : X.N.Nodup) (he : EE X R e t) (hi : X.N[i]? = some x := by rfl) (hx : Loc X.env.scope x := by first | exact Or.inl rfl | exact Or.inr rfl) (hf : X.fn x = true ∨ X.env.scope.names.lookup x = some .local := by first | exact .inl rfl | exact .inr rfl) :
    ES X R (.AugAssign (.Name x px) .Add e pos) (sAug i t) := PS_imp (ps_aug nd hi hx he ip_add hf) fun E σ H ⟨ρ, en, r, o, ⟨a, h1, w⟩, f⟩ => by
  obtain ⟨v, hv, rv⟩ := r.get h1
  cases rv
  refine ⟨_, hv, ρ, _, r, o, w, ?_⟩
  rintro d u H1 ⟨b, rfl, w1⟩ r1 e1 o1
  cases r1
  exact ⟨a, b, rfl, rfl, f.nx _ _ H1 w1 ((r.mono e1).set (.int _) i) e1 o1⟩
/-! ### partition, rsplit -/
def partS : Str → Str → (D → Prop) → Prop := fun a b q => (b.length == 0) = false ∧ a.length ≤ sizeLine ∧ q (.tup [.str (Txt.partition a b).1, .str (Txt.partition a b).2.1, .str (Txt.partition a b).2.2])
theorem op_part (a b : Str) (H : Hp) (q : D → Prop) (Q : VK) (o : Pot R H) (w : partS a b q) (f : Fin X.K R H q Q) : ∃ a' b', V.str a = .str a' ∧ [V.str b] = [.str b'] ∧ (b'.length == 0) = false ∧ a'.length ≤ sizeLine ∧
    ∀ p, H p = none → Q (.ref p) (upd H p (.tup [.str (Txt.partition a' b').1, .str (Txt.partition a' b').2.1, .str (Txt.partition a' b').2.2])) :=
  ⟨a, b, rfl, rfl, w.1, w.2.1, fun p n => f _ _ _ w.2.2 (new_tup (.cons (.str _) (.cons (.str _) (.cons (.str _) .nil))) n o) (Ext.new n) (o.new n)⟩
theorem mt_rsplitMax : MtR X "str.rsplit" (fun x xs H Q => ∃ (a b : Str) (k : Int), x = .str a ∧ xs = [.str b, .int k] ∧ (b.length == 0) = false ∧ -(2 ^ 63) ≤ k ∧ k < 2 ^ 63 ∧ a.length + 2 ≤ sizeLine ∧ rNewStrs (Txt.rsplitMax a b k) H Q) := by
  intro pins s σ H x xs v us Q I rx rs h
  obtain ⟨a, b, k, rfl, rfl, hb, k1, k2, hz, h⟩ := h
  obtain ⟨t, rfl⟩ := rx
  cases rs with
  | cons r1 rs =>
    cases rs with
    | cons r2 rs =>
      cases rs
      obtain ⟨u, rfl⟩ := r1
      obtain ⟨v, rfl⟩ := r2
      have e1 : decide (k < -(2 ^ 63 : Int)) = false := decide_eq_false (by omega)
      have e2 : decide (k ≥ 2 ^ 63) = false := decide_eq_false (by omega)
      have hk : (decide (k < -(2 ^ 63 : Int)) || decide (k ≥ 2 ^ 63)) = false := by rw [e1, e2, Bool.or_false]
      have hn : (Builtin.Str.partsBetween a (Builtin.Str.occurrencesFromRight a b (limitOf a k)) b.length).length ≤ sizeLine := by
        have e1 := StrLaws.occR_length_le_len a b (limitOf a k)
        rw [length_partsBetween]; omega
      have hl : (Txt.rsplitMax a b k).length ≤ sizeLine := by
        unfold Txt.rsplitMax
        split
        · show 1 ≤ sizeLine; omega
        · split
          · show 1 ≤ sizeLine; omega
          · exact hn
      cases h1 : (decide (a.length < b.length) || decide (Builtin.Str.strKind a < Builtin.Str.strKind b))
      · cases hf : (Builtin.Str.occurrencesFromRight a b (limitOf a k)).isEmpty
        · refine call_meets F.slot_str_rsplit (typeIs_str _ _ _) F.entry_str_rsplit (F.args_str_rsplit_3 _ _ _) (meets_str_rsplit_sep_max a b k t u v hk h1 hb hf (by omega) hn) ?_
          show EP X pins σ Q (.ref s.heap.objs.size) { s with toks := _, heap := s.heap.push { cls := .type "list", data := .seq (strsFrom s.toks (Builtin.Str.partsBetween a (Builtin.Str.occurrencesFromRight a b (limitOf a k)) b.length)).toArray } }
          rw [strsFrom_eq]
          exact laid_strs (ys := Txt.rsplitMax a b k) I ((numbered_texts _ _).trans ((if_neg (ne_true_of_eq_false h1)).trans (if_neg (ne_true_of_eq_false hf))).symm) hl h
        · refine call_meets F.slot_str_rsplit (typeIs_str _ _ _) F.entry_str_rsplit (F.args_str_rsplit_3 _ _ _) (meets_str_rsplit_max_not_found a b k t u v hk h1 hb hf) ?_
          exact laid_strs (l := [(a, t)]) (ys := Txt.rsplitMax a b k) (k := s.toks) I ((if_neg (ne_true_of_eq_false h1)).trans (if_pos hf)).symm hl h
      · refine call_meets F.slot_str_rsplit (typeIs_str _ _ _) F.entry_str_rsplit (F.args_str_rsplit_3 _ _ _) (meets_str_rsplit_max_cannot_occur a b k t u v hk h1) ?_
        exact laid_strs (l := [(a, t)]) (ys := Txt.rsplitMax a b k) (k := s.toks) I (if_pos h1).symm hl h
/-- a.rsplit(b, k) -/
def vRsplit (t : TDE) (ta : TDA) : TDE := fun ρ q => t ρ fun d => ∃ a, d = .str a ∧ ta ρ fun ds => ∃ (b : Str) (k : Int), ds = [.str b, .int k] ∧ (b.length == 0) = false ∧ -(2 ^ 63) ≤ k ∧ k < 2 ^ 63 ∧ a.length + 2 ≤ sizeLine ∧ q (.seq ((Txt.rsplitMax a b k).map D.str))
theorem d_rsplit {o e1 e2 : Expr} {apos : Pos} {t : TDE} {ta : TDA} (ho : EE X R o t) (he : EA X R [e1, e2] ta) (hs : starEach [e1, e2] X.env = (false, eval e1 X.env) :: starEach [e2] X.env := by rfl) (hbase : attributeBase o "rsplit" X.env (eval o X.env) = eval o X.env := by rfl)
    (hfew : ((backTo pos (starEach [e1, e2] X.env)).all (fun x => !x.1) && (backToKw pos (keywordEach [] X.env)).all (fun x => x.1.isSome) && decide ([e1, e2].length + ([] : List Keyword).length + (if ([] : List Keyword).isEmpty then 0 else 1) < 30)) = true := by rfl)
    (hline : (apos.endLine == pos.line) = true := by rfl) (hpl : (backTo pos (starEach [e2] X.env)).any (·.1) = false := by rfl) : EE X R (.Call (.Attribute o "rsplit" apos) [e1, e2] [] pos) (vRsplit t ta) :=
  PE_imp (pe_bm PySem.F.plainAttrs_str PySem.F.slot_str_rsplit PySem.F.type_str_rsplit mt_rsplitMax ho he hbase hfew hline hs hpl) fun σ H Q ⟨ρ, q, r, o, w, f⟩ => by
    refine ⟨ρ, _, r, o, w, ?_⟩
    rintro d v H1 ⟨a, rfl, w1⟩ r1 e1 o1
    cases r1
    refine ⟨rfl, ρ, _, r.mono e1, o1, w1, ?_⟩
    rintro ds vs H2 ⟨b, k, rfl, hb, k1, k2, hz, w2⟩ r2 e2 o2
    obtain ⟨x, y, rfl, rx, ry⟩ := r2.two
    cases rx; cases ry
    exact ⟨a, b, k, rfl, rfl, hb, k1, k2, hz, fun p n => f _ _ _ w2 (new_strs _ n o2) ((e1.trans e2).trans (Ext.new n)) (o2.new n)⟩
/-! ### not reached -/
theorem s_never {st : Stmt} : ES X R st (fun _ _ => False) := ⟨fun pins s σ H E I h => by
  obtain ⟨_, _, _, _, w, _⟩ := h
  exact w.elim⟩
theorem ss_never {sts : List Stmt} : ESs X R sts (fun _ _ => False) := ⟨fun pins s σ H E I h => by
  obtain ⟨_, _, _, _, w, _⟩ := h
  exact w.elim⟩
/-! ### a, b = a list -/
def sUnpL (is : List Nat) (t : TDE) : TDS := fun e ρ => t ρ fun d => ∃ ds, lstOf d ds ∧ ds.length = is.length ∧ e.nx (setAll is ds ρ)
theorem s_unpL {is : List Nat} {es : List Expr} {e : Expr} {t : TDE} {k : Nat} {tp : Pos} (hc : X.calm = true) (hg : PGs X es (gNames is)) (he : EE X R e t) (hn : (assignEach es X.env).length = is.length := by rfl) (hst : (assignEach es X.env).findIdx? (·.1) = none := by rfl)
    (hs : swapsWithSole [.Tuple es k tp] e pos.line X.env = pure false := by rfl) (hw : swappedStores [.Tuple es k tp] e X.env = pure none := by rfl)
    (h1 : (assignEach [.Tuple es k tp] X.env).map (·.2) = [assign (.Tuple es k tp) X.env] := by rfl) : ES X R (.Assign [.Tuple es k tp] e pos) (sUnpL is t) :=
  PS_imp (ps_asg he (pg_lst hc hg hn hst) hs hw h1) fun E σ H ⟨ρ, en, r, o, w, f⟩ => by
    refine ⟨ρ, _, r, o, w, ?_⟩
    rintro d v H1 ⟨ds, hd, hl, w1⟩ r1 e1 o1
    obtain ⟨a, vs, rfl, ha, ra⟩ := rep_lst r1 hd
    refine ⟨a, vs, rfl, .of ha, by rw [ra.length]; exact hl, ?_⟩
    exact gNames_ok is _ ds σ ρ _ ra (by rw [ra.length]; exact hl) (r.mono e1) fun σ' hr' => f.nx _ σ' H1 w1 hr' e1 o1
/-! ### text * int -/
theorem op_mulS : OpR X (binaryOp .Mult) (fun x y H Q => ∃ (a : Str) (n : Int), x = .str a ∧ y = .int n ∧ MulOk a n ∧ Q (.str (Txt.mul a n)) H) := by
  intro pins s σ H x y v u Q I rx ry h
  obtain ⟨a, n, rfl, rfl, hok, h⟩ := h
  obtain ⟨t, rfl⟩ := rx
  obtain ⟨t', rfl⟩ := ry
  exact SB.mul hok fun t2 k => ⟨.str _, H, I.tok _, ⟨_, rfl⟩, h⟩
def mulS : DOp := fun dx dy q => ∃ (a : Str) (n : Int), dx = .str a ∧ dy = .int n ∧ MulOk a n ∧ q (.str (Txt.mul a n))
theorem opd_mulS {K : PySem.W.Frag} : OpD K R (fun x y H Q => ∃ (a : Str) (n : Int), x = .str a ∧ y = .int n ∧ MulOk a n ∧ Q (.str (Txt.mul a n)) H) mulS := by
  rintro x y dx dy H q Q rx ry o ⟨a, n, rfl, rfl, hok, w⟩ f
  cases rx; cases ry
  exact ⟨a, n, rfl, rfl, hok, f _ _ H w (.str _) (Ext.refl _ _) o⟩
/-! ### str of an int, of a text -/
def strA : DCall := fun ds q => (∃ i, ds = [.int i] ∧ i.natAbs.log2 < 1920 ∧ q (.str (toString i))) ∨ ∃ a, ds = [.str a] ∧ q (.str a)
theorem cd_strA {K : PySem.W.Frag} : CallD K R (fun xs H Q => (∃ i, xs = [.int i] ∧ i.natAbs.log2 < 1920 ∧ Q (.str (toString i)) H) ∨ ∃ a, xs = [.str a] ∧ Q (.str a) H) strA := by
  rintro xs ds H q Q r o w f
  rcases w with ⟨i, rfl, hi, w⟩ | ⟨a, rfl, w⟩
  · obtain ⟨x, rfl, rx⟩ := r.one
    cases rx
    exact .inl ⟨i, rfl, hi, f _ _ H w (.str _) (Ext.refl _ _) o⟩
  · obtain ⟨x, rfl, rx⟩ := r.one
    cases rx
    exact .inr ⟨a, rfl, f _ _ H w (.str _) (Ext.refl _ _) o⟩
end
/-! ### for i, c in enumerate(text), enumerate(text, start=1) -/
def Itn (x : Str) (k0 : Int) : It :=
  ⟨fun i H => i < x.cps.size, fun i H v H' => ∃ T c, v = .ref T ∧ H T = none ∧ H' = upd H T (.tup [.int (k0 + (i : Nat)), .str ⟨#[c]⟩]) ∧ x.cps[i]? = some c, fun i H => x.cps.size ≤ i⟩
theorem turn_enumS {P : Program} {w : World} {K : PySem.W.Frag} {elts : List Expr} {kk : Nat} {tpos : Pos} (x : Str) (t : Tok) (k0 : Int) (e it : Addr) :
    Turn P w K (.Tuple elts kk tpos) (Itn x k0) [e, it] e (fun i h => (∃ old, IsEnum h e it (k0 + ((i : Nat) : Int)) old) ∧ h.IsStrIter it (strIterType x) x t i ∧ e ≠ it ∧ i ≤ x.cps.size) where
  mem := by simp
  obj := fun i h st b hb => by
    obtain ⟨⟨old, he⟩, ⟨o, ho, hc, hd⟩, _⟩ := st
    have e' : b = e ∨ b = it := by simpa using hb
    rcases e' with z | z
    · rw [z]; exact ⟨_, he, fun v q => nomatch q⟩
    · rw [z]; exact ⟨o, ho, fun v q => by rw [hd] at q; cases q⟩
  keep := fun i h h' st k => let ⟨⟨old, he⟩, ⟨o, ho, r⟩, hne, hle⟩ := st; ⟨⟨old, k e (by simp) _ he⟩, ⟨o, k it (by simp) o ho, r⟩, hne, hle⟩
  item := by
    intro X hP hw hK hc i pins s σ H E I hf st hg
    subst hP hw hK
    obtain ⟨⟨old, he⟩, hit, hne, hle⟩ := st
    have hel : e < s.heap.objs.size := Heap.lt_size he
    have hil : it < s.heap.objs.size := by obtain ⟨_, q, _⟩ := hit; exact Heap.lt_size q
    have Dr := Draws.text (prog := X.prog) (w := X.w) (A := X.A.in1) (I.ok.hd hc) it x t
    refine wpAny_pyNext_enum_itemC Dr he hit hg hne (by simpa using hne) fun u h' tk hP' ho hit' hT hsz hk => ?_
    obtain ⟨c, tu, hcx, rfl⟩ := hP'
    refine ⟨_, rfl, wpAny_letOwnedTupleGo_enum (s := { s with heap := h', toks := tk + 1 }) ho fun h'' he' sb => ?_⟩
    have hT2 : h''.get? s.heap.objs.size = some { cls := .type "tuple", data := .seq #[.int (k0 + ((i : Nat) : Int)) tk, .str ⟨#[c]⟩ tu] } := (sb.2 _ (Nat.ne_of_gt hel)).trans hT
    have new : ObjOk X.prog X.w (upd H s.heap.objs.size (.tup [.int (k0 + (i : Nat)), .str ⟨#[c]⟩])) h'' s.heap.objs.size (.tup [.int (k0 + (i : Nat)), .str ⟨#[c]⟩]) :=
      ⟨by show 2 ≤ sizeLine; decide, [.int (k0 + ((i : Nat) : Int)) tk, .str ⟨#[c]⟩ tu], .cons ⟨_, rfl⟩ (.cons ⟨_, rfl⟩ .nil), ⟨_, hT2, rfl, _, rfl⟩⟩
    have I1 : Inv X pins σ (upd H s.heap.objs.size (.tup [.int (k0 + (i : Nat)), .str ⟨#[c]⟩])) { s with heap := h'', toks := tk + 1 } :=
      I.turnedNew (ch := [e, it]) (fun b ob hb q => (sb.2 b (fun z => hb (by simp [z]))).trans (hk b ob (fun z => hb (by simp [z])) (fun z => hb (by simp [z])) q)) hf (Nat.le_refl _) new
    refine ⟨.ref s.heap.objs.size, _, I1, rfl, ⟨_, c, rfl, I.hok.fresh (Nat.le_refl _), rfl, hcx⟩, ⟨⟨.str ⟨#[c]⟩ tu, ?_⟩, ?_, hne, hg⟩, fun b hb => ?_⟩
    · have e1 : k0 + ((i + 1 : Nat) : Int) = k0 + (i : Int) + 1 := by omega
      rw [e1]; exact he'
    · obtain ⟨o, q1, q2⟩ := hit'
      exact ⟨o, (sb.2 it (Ne.symm hne)).trans q1, q2⟩
    · have hb' : b < s.heap.objs.size := by
        have e' : b = e ∨ b = it := by simpa using hb
        rcases e' with z | z
        · rw [z]; exact hel
        · rw [z]; exact hil
      rw [upd_ne (Nat.ne_of_lt hb')]
      exact (hf b hb).1
  done := by
    intro X hP hw hK hc i pins s σ H E I hf st hg
    subst hP hw hK
    obtain ⟨⟨old, he⟩, hit, hne, hle⟩ := st
    obtain ⟨f0, f1, f2, f3, f4, f5⟩ := hf it (by simp)
    have hi : i = x.cps.size := by
      have : x.cps.size ≤ i := hg
      omega
    subst hi
    have Dr := Draws.text (prog := X.prog) (w := X.w) (A := X.A.in1) (I.ok.hd hc) it x t
    exact wpAny_pyNext_enum_endD Dr he hit fun h' eb => ⟨rfl, I.turned (t' := s.toks) (fun b o hb q => eb b o hb q) f0 f1 f3 f4 f5⟩
  self := fun A i s Q E st h => let ⟨⟨_, he⟩, _⟩ := st; wpAny_pyIter_enum he h
section
variable {X : Cx} {R : Res} {pos : Pos}
def iEnumS (k0 : Int) (te : TE) : TI := fun σ H W => te σ H fun v H1 => ∃ x, [v] = [V.str x] ∧ W (Itn x k0) H1
theorem enum_end {pins : List (Addr × Obj)} {σ : L2.St} {H : Hp} {s : Shared} {x : Str} {t : Tok} {k0 : Int} {elts : List Expr} {kk : Nat} {tpos : Pos} {W : It → Hp → Prop} (I : Inv X pins σ H s) (q : W (Itn x k0) H) {h' : Heap} (he : IsEnum h' (s.heap.objs.size + 1) s.heap.objs.size k0 .none)
    (hit : h'.IsStrIter s.heap.objs.size (strIterType x) x t 0) (hk : ∀ b o, s.heap.get? b = some o → h'.get? b = some o) : wpAny (model X.prog X.w) X.A (pyIter (.ref (s.heap.objs.size + 1))) (PIE X pins σ (.Tuple elts kk tpos) W) X.xe { s with heap := h' } := by
  refine wpAny_pyIter_enum he ?_
  have I2 : Inv X pins σ H { s with heap := h' } := I.kept (t' := s.toks) hk
  refine ⟨s.heap.objs.size + 1, [s.heap.objs.size + 1, s.heap.objs.size], _, _, H, rfl, I2, turn_enumS x t k0 (s.heap.objs.size + 1) s.heap.objs.size, ⟨⟨.none, ?_⟩, hit, Nat.succ_ne_self _, Nat.zero_le _⟩, fun b hb => ?_, q⟩
  · have e : k0 + ((0 : Nat) : Int) = k0 := by omega
    rw [e]; exact he
  · have e' : b = s.heap.objs.size + 1 ∨ b = s.heap.objs.size := by simpa using hb
    have hle : s.heap.objs.size ≤ b := by
      rcases e' with z | z
      · rw [z]; exact Nat.le_add_right _ _
      · rw [z]; exact Nat.le_refl _
    exact I.fpOk hle (I.hok.fresh hle)
theorem pi_enumS {e : Expr} {te : TE} {p tpos : Pos} {elts : List Expr} {kk : Nat} (hm : X.mg "enumerate" = none) (ha : PE X e te) (hg : Gl X "enumerate" := by rfl) (hs : starEach [e] X.env = [(false, eval e X.env)] := by rfl) :
    PI X (.Tuple elts kk tpos) (.Call (.Name "enumerate" p) [e] [] pos) (iEnumS 0 te) := by
  refine ⟨fun pins s σ H W I h => ?_⟩
  refine Call_ (ld_blt I hg hm boot_enumerate (PyProof.Rows.callWith_type1 (thn ((pa_cons ha pa_nil hs).run pos pins s σ H (fun vs H1 => ∃ x, vs = [.str x] ∧ W (Itn x 0) H1) I ?_) fun us s1 ⟨vs, H1, I1, r1, q1⟩ => ?_) hs rfl))
  · exact h
  obtain ⟨x, ex, q⟩ := q1
  subst ex
  cases r1 with
  | cons r rr =>
    cases rr
    obtain ⟨t, rfl⟩ := r
    refine call_enumerate_str fun h' he hit hsz hk => ?_
    exact enum_end (t := t) I1 q he hit hk
theorem callWith_type_kwB {M : Model} {A : Around} {E : Value → Shared → Prop} {s : Shared} {pos : Pos} {T : String} {first : List Value} {args : List (Bool × Sem Value)} {keywords : List (Option Str × Sem Value)} {Q : Value → Shared → Prop}
    (hplain : args.any (·.1) = false) (hkw : keywords.any (·.1.isNone) = false)
    (h : wpAny M A (evalArgs (.type T) true args keywords) (fun a s₁ => wpAny M A (call (.type T) (first ++ a.pos) a.kw) Q E s₁) E s) :
    wpAny M A (callWith pos (.type T) first args keywords) Q E s := by
  unfold callWith
  refine wpAny_bind (wpAny_holding (wpAny_mono h (fun a s₁ h₁ => wpAny_bind (wpAny_standAt ?_)) fun _ _ x => x))
  simp only [hplain, hkw, Bool.or_false]
  refine wpAny_bind (wpAny_pure ?_)
  exact wpAny_bind (wpAny_mono h₁ (fun r s₂ hr => wpAny_bind (wpAny_holding (wpAny_point (wpAny_pure hr)))) fun _ _ x => x)
theorem pi_enumK {e : Expr} {te : TE} {p tpos p2 kp : Pos} {elts : List Expr} {kk j : Nat} {k0 : Int} (hm : X.mg "enumerate" = none) (ha : PE X e te) (hk0 : -(2 ^ 63) ≤ k0 := by decide) (hk1 : k0 < 2 ^ 63 := by decide) (hg : Gl X "enumerate" := by rfl) (hs : starEach [e] X.env = (false, eval e X.env) :: starEach [] X.env := by rfl)
    (he : backTo pos (starEach [e] X.env) = (false, eval e X.env) :: backTo pos (starEach [] X.env) := by rfl) (hplain : (backTo pos (starEach [e] X.env)).any (·.1) = false := by rfl)
    (hall : (backToKw pos (keywordEach [⟨some "start", .Constant (.int k0) j p2, kp⟩] X.env)).all (·.1.isSome) = true := by rfl)
    (hkw : (backToKw pos (keywordEach [⟨some "start", .Constant (.int k0) j p2, kp⟩] X.env)).any (·.1.isNone) = false := by rfl)
    (hks : (backToKw pos (keywordEach [⟨some "start", .Constant (.int k0) j p2, kp⟩] X.env)).filterMap (·.1) = [(Str.ofString "start")] := by rfl) :
    PI X (.Tuple elts kk tpos) (.Call (.Name "enumerate" p) [e] [⟨some "start", .Constant (.int k0) j p2, kp⟩] pos) (iEnumS k0 te) := by
  refine ⟨fun pins s σ H W I h => ?_⟩
  refine wpAny_Call_Name_kw (ld_blt I hg hm boot_enumerate ?_)
  refine callWith_type_kwB hplain hkw ?_
  have hA := (pa_cons ha pa_nil hs).run pos pins s σ H (fun vs H1 => ∃ x, vs = [.str x] ∧ W (Itn x k0) H1) I h
  rw [he]
  rw [hs] at hA
  refine PyProof.Rows.evalArgs_kwB hall (thn hA fun us s1 ⟨vs, H1, I1, r1, q1⟩ => ?_)
  refine thn ((pk_cons (nm := some "start") (kpos := kp) (pe_int (i := k0)) pk_nil).run pos pins s1 σ H1 (fun ks H2 => ks = [.int k0] ∧ H2 = H1) I1 ⟨rfl, rfl⟩) fun ws s2 ⟨zs, H2, I2, r2, e2, e3⟩ => ?_
  subst e2 e3
  rw [hks]
  cases r2 with
  | cons rk rn =>
    cases rn
    obtain ⟨tk, rfl⟩ := rk
    obtain ⟨x, ex, q⟩ := q1
    subst ex
    cases r1 with
    | cons r rr =>
      cases rr
      obtain ⟨t, rfl⟩ := r
      refine enum_begins_start (begins_text x t) trivial hk0 hk1 fun h' he' ho hsz hk => ?_
      exact enum_end (t := t) I2 q he' ⟨_, ho, rfl, rfl⟩ hk
/-- for i, c in enumerate(text ..) -/
def sForE (i j : Nat) (k0 : Int) (t : TDE) (tb : TDS) : TDS := fun e ρ => t ρ fun d => ∃ z : Str, d = .str z ∧ ∃ Iv : Nat → DE → Prop, Iv 0 ρ ∧
  (∀ m c ρ', z.cps.toList[m]? = some c → Iv m ρ' → tb ⟨Iv (m + 1), e.rt⟩ ((ρ'.set i (some (.int (k0 + (m : Nat))))).set j (some (.str ⟨#[c]⟩)))) ∧ ∀ ρ', Iv z.cps.toList.length ρ' → e.nx ρ'
theorem s_forE {i j : Nat} {k0 : Int} {es : List Expr} {kk : Nat} {tp : Pos} {iter : Expr} {body : List Stmt} {t : TDE} {tb : TDS} (hp : PassesOwn (model X.prog X.w) X.A X.env X.xe) (hc : X.calm = true) (hi : PI X (.Tuple es kk tp) iter (iEnumS k0 (tD X.K R t))) (hg : PGs X es (gNames [i, j])) (hb : ESs X R body tb)
    (hn : (assignEach es X.env).length = 2 := by rfl) (hst : (assignEach es X.env).findIdx? (·.1) = none := by rfl)
    (hs : ∀ x, foldedSetIterable iter X.env x = pure x := by intro _; rfl) : ES X R (.For (.Tuple es kk tp) iter body [] pos) (sForE i j k0 t tb) :=
  PS_imp (ps_for hp hc hi (pg_tup hc hg hn hst) hb hs) fun E σ H ⟨ρ, en, r, o, w, f⟩ => by
    refine ⟨ρ, _, r, o, w, ?_⟩
    rintro d v H1 ⟨z, rfl, Iv, h0, hstep, hend⟩ r1 e1 o1
    cases r1
    refine ⟨z, rfl, ?_⟩
    have wk : L2.Walk (Itn z k0) z.cps.size (fun _ => True) (fun i H v H' => ∃ T c, v = .ref T ∧ H T = none ∧ H' = upd H T (.tup [.int (k0 + (i : Nat)), .str ⟨#[c]⟩]) ∧ z.cps[i]? = some c) :=
      ⟨fun _ _ hi _ => hi, fun _ _ => Nat.le_refl _, fun _ _ _ _ _ _ y => y⟩
    refine for_it wk (fun m σ' H' => m ≤ z.cps.size ∧ Ext R.p H1 H' ∧ Pot R H' ∧ ∃ ρ', REnv X.K R.av H' σ' ρ' ∧ Iv m ρ') ⟨Nat.zero_le _, Ext.refl _ _, o1, ρ, r.mono e1, h0⟩ (fun _ _ _ _ _ => trivial) ?_ ?_
    · rintro m x σ' H' H'' hm ⟨_, e2, o2, ρ', r2, iv⟩ ⟨T, c, rfl, nT, rfl, hcx⟩
      have e3 : Ext R.p H' (upd H' T (.tup [.int (k0 + (m : Nat)), .str ⟨#[c]⟩])) := Ext.new nT
      have o3 := o2.new (R := R) (o := .tup [.int (k0 + (m : Nat)), .str ⟨#[c]⟩]) nT
      refine ⟨T, [.int (k0 + (m : Nat)), .str ⟨#[c]⟩], rfl, .inl (.inl upd_same), rfl, ?_⟩
      refine gNames_ok (q := R.av) [i, j] _ [.int (k0 + (m : Nat)), .str ⟨#[c]⟩] σ' ρ' _ (.cons (.int _) (.cons (.str _) .nil)) rfl (r2.mono e3) fun σ2 rr => ?_
      refine ⟨_, _, rr, o3, hstep m c ρ' (by simpa using hcx) iv, fun ρ3 σ3 H3 w3 r3 e4 o4 => ?_, f.rt.step ((e1.trans e2).trans e3)⟩
      exact ⟨hm, (e2.trans e3).trans e4, o4, ρ3, r3, w3⟩
    · rintro σ' H' ⟨_, e2, o2, ρ', r2, iv⟩
      exact f.nx ρ' σ' H' (hend ρ' (by simpa using iv)) r2 (e1.trans e2) o2
/-! ### a tuple, walked; f(e) as a statement; f(x=e) -/
def iTupD (t : TDE) : TDI := fun ρ q => t ρ fun d => ∃ ds, d = .tup ds ∧ q ds
theorem i_tup {tg e : Expr} {t : TDE} (he : EE X R e t) : EI X R tg e (iTupD t) := PI_imp (pi_tup he) fun σ H W ⟨ρ, q, r, o, w, f⟩ => by
  refine ⟨ρ, _, r, o, w, ?_⟩
  rintro d v H1 ⟨ds, rfl, w1⟩ r1 e1 o1
  cases r1 with
  | @tup a xs _ h ra =>
    refine ⟨a, rfl, ⟨xs, h.sq⟩, f ds _ H1 w1 ⟨fun H => SqT X.K H a xs, YAt xs, ?_, fun H' e => (SqTp.mono e h).sq, ?_⟩ e1 o1⟩
    · rw [← ra.length]; exact walk_tup
    · rintro i H2 x H3 hil e2 ⟨rfl, hx⟩
      obtain ⟨d, h1, h2⟩ := ra.get' hx
      exact ⟨rfl, d, h1, h2⟩
def sExpr (t : TDE) : TDS := fun e ρ => t ρ fun _ => e.nx ρ
theorem s_expr {e : Expr} {t : TDE} (he : EE X R e t) (hs : swapsWith e none pos.line X.env = pure false := by rfl) : ES X R (.Expr e pos) (sExpr t) := PS_imp (ps_expr he hs) fun E σ H ⟨ρ, en, r, o, w, f⟩ =>
  ⟨ρ, _, r, o, w, fun d v H1 w1 r1 e1 o1 => f.nx ρ σ H1 w1 (r.mono e1) e1 o1⟩
/-- a def of one parameter y, also called by its name -/
structure DefK (P : Program) (w : World) (K : PySem.W.Frag) (mg : Str → Option Value) (base : Heap) (x y : Str) (k : Nat) (sp : Sp) : Prop where
  ex : ∃ (f : Addr) (fd : FuncData), FnG P w K mg base k f fd [y] sp ∧ mg x = some (.ref f) ∧ PySem.W.keepIn K (.ref f) = true ∧ Binds K fd [y] [] ∧ ∀ (s : Shared) (u : Value), BindsTo s fd ⟨[], [y].zip [u]⟩ ([y].zip [u])
theorem DefK.d {P : Program} {w : World} {K : PySem.W.Frag} {mg : Str → Option Value} {base : Heap} {x y : Str} {k : Nat} {sp : Sp} (h : DefK P w K mg base x y k sp) : Def P w K mg base x k sp := by
  obtain ⟨f, fd, h1, h2, h3, h4, _⟩ := h.ex
  exact ⟨f, fd, _, h1, h2, h3, h4⟩
theorem d_callK {k : Nat} {x y : Str} {p kp : Pos} {e : Expr} {te : TDE} {Fd : DCall} (F : DefK X.prog X.w X.K X.mg X.base x y k (spD X.K R Fd))
    (hr : Room k X.A) (hgd : X.A.guards = some []) (ha : EE X R e te) (hg : Gl X x := by rfl)
    (hdb : (x == ("__debug__" : Str)) = false := by decide) (hall : (backToKw pos (keywordEach [⟨some y, e, kp⟩] X.env)).all (·.1.isSome) = true := by rfl) (hks : (backToKw pos (keywordEach [⟨some y, e, kp⟩] X.env)).filterMap (·.1) = [y] := by rfl)
    (hpl : ((backTo pos (starEach [] X.env)).any (·.1) || (backToKw pos (keywordEach [⟨some y, e, kp⟩] X.env)).any (·.1.isNone)) = false := by rfl) :
    EE X R (.Call (.Name x p) [] [⟨some y, e, kp⟩] pos) (vCall Fd (vCons te vNil)) := by
  obtain ⟨f, fd, F, hm, hk, hb, hbk⟩ := F.ex
  refine ⟨fun pins s σ H Q I ⟨ρ, q, r, o, w, fi⟩ => ?_⟩
  refine wpAny_Call_Name_kw (ld_glob I hg hm ?_ hdb)
  refine PySem.W.callWith_KW0 (h₀ := X.base) I.ok.mod.kin hk hall ?_ hpl
  refine thn ((pk_cons (nm := some y) (kpos := kp) ha pk_nil).run pos pins s σ H (fun vs H1 => spD X.K R Fd vs H1 Q E0) I ?_) fun ws s2 ⟨zs, H2, I2, rz, q2⟩ => ⟨I2.kIn, ?_⟩
  · refine ⟨ρ, _, r, o, w, fun d v H1 w1 r1 e1 o1 => ?_⟩
    exact ⟨[d], q, .cons r1 .nil, o1, w1, fi.step e1⟩
  · rw [hks]
    have hl : zs.length = 1 := F.len _ _ _ _ q2
    obtain ⟨z, rfl⟩ : ∃ z, zs = [z] := by
      match zs, hl with | [z], _ => exact ⟨z, rfl⟩
    cases rz with
    | cons ru rn =>
      cases rn
      refine wpAny_call (codeAny_mono (F.run X.A X.stack s2 H2 ⟨[], [y].zip [_]⟩ [_] [z] Q E0 hr hgd I2.env0 (hbk s2 _) (.cons ru .nil) q2) fun r s' hq => ?_)
      cases r with
      | error e => exact hq.elim
      | ok fl =>
        cases fl with
        | ret u => exact I2.after hq
        | next => exact False.elim hq
        | brk => exact False.elim hq
        | cont => exact False.elim hq
end
end Dl

set_option Elab.async false
set_option linter.all false
set_option maxRecDepth 100000
set_option maxHeartbeats 4000000
namespace Dl
open PySem PySem.Spec PyProof.Rows L2
/-! ## statements over a state: what is known of the objects that may change is told by τ; expressions leave τ -/
/-- what is tracked, by the state: p: what may change though the state does not tell how; n: the objects of the state; Ss: what it tells of them -/
structure Fam (T : Type) where
  p : List Addr
  n : T → List Addr
  Sp : Hp → Prop
  Ss : T → Hp → Prop
  nin : ∀ τ H a, Sp H → Ss τ H → H a = none → a ∉ p ++ n τ
  dep : ∀ H H', (∀ a ∈ p, H' a = H a) → Sp H → Sp H'
  mono : ∀ τ H H', Ext p H H' → Ss τ H → Ss τ H'
/-- .. at one state -/
def Fam.at {T : Type} (F : Fam T) (τ : T) : Res := ⟨F.p, F.n τ, F.Sp, F.Ss τ, F.nin τ, F.dep, F.mono τ⟩
abbrev Fam.av {T : Type} (F : Fam T) (τ : T) : List Addr := F.p ++ F.n τ
abbrev Fam.S {T : Type} (F : Fam T) (τ : T) (H : Hp) : Prop := Pot (F.at τ) H
/-- from state to state: all else stays; what is newly of the state was not there -/
structure Step {T : Type} (F : Fam T) (τ : T) (H : Hp) (τ' : T) (H' : Hp) : Prop where
  keep : ∀ b o, b ∉ F.av τ → H b = some o → H' b = some o
  fresh : ∀ b ∈ F.n τ', b ∈ F.av τ ∨ H b = none
theorem Step.refl {T : Type} {F : Fam T} {τ : T} {H : Hp} : Step F τ H τ H := ⟨fun _ _ _ h => h, fun _ h => .inl (List.mem_append_right _ h)⟩
theorem Step.out {T : Type} {F : Fam T} {τ τ' : T} {H H' : Hp} (s : Step F τ H τ' H') {b : Addr} {o : HO} (h : b ∉ F.av τ) (e : H b = some o) : b ∉ F.av τ' := fun m => by
  rcases List.mem_append.mp m with m | m
  · exact h (List.mem_append_left _ m)
  · rcases s.fresh b m with m | m
    · exact h m
    · rw [m] at e; cases e
theorem Step.trans {T : Type} {F : Fam T} {τ1 τ2 τ3 : T} {H1 H2 H3 : Hp} (a : Step F τ1 H1 τ2 H2) (b : Step F τ2 H2 τ3 H3) : Step F τ1 H1 τ3 H3 :=
  ⟨fun c o m e => b.keep c o (a.out m e) (a.keep c o m e), fun c m => by
    rcases b.fresh c m with m | m
    · rcases List.mem_append.mp m with m | m
      · exact .inl (List.mem_append_left _ m)
      · exact a.fresh c m
    · by_cases h : c ∈ F.av τ1
      · exact .inl h
      · cases q : H1 c with
        | none => exact .inr rfl
        | some o =>
          have := a.keep c o h q
          rw [m] at this; cases this⟩
theorem Step.keep' {T : Type} {F : Fam T} {τ τ' : T} {H H' : Hp} (s : Step F τ H τ' H') : Ext (F.at τ).av H H' := fun b o m h => s.keep b o m h
/-- an expression leaves the state -/
theorem Step.ext {T : Type} {F : Fam T} {τ : T} {H H' : Hp} (e : Ext F.p H H') : Step F τ H τ H' := ⟨fun b o m h => e b o (fun z => m (List.mem_append_left _ z)) h, fun _ h => .inl (List.mem_append_right _ h)⟩
mutual
theorem Rep.step {T : Type} {F : Fam T} {K : PySem.W.Frag} {τ τ' : T} {H H' : Hp} (s : Step F τ H τ' H') : ∀ {v : V} {d : D}, Rep K (F.av τ) H v d → Rep K (F.av τ') H' v d
  | _, _, .non => .non
  | _, _, .bl b => .bl b
  | _, _, .int i => .int i
  | _, _, .str x => .str x
  | _, _, .tup h r => .tup (by
      rcases h with ⟨h, m⟩ | h
      · rcases h with h | ⟨o, h⟩
        · exact .inl ⟨.inl (s.keep _ _ m h), s.out m h⟩
        · exact .inl ⟨.inr ⟨o, s.keep _ _ m h⟩, s.out m h⟩
      · exact .inr h) (RepAll.step s r)
  | _, _, .lst h m z r => .lst (s.keep _ _ m h) (s.out m h) z (RepAll.step s r)
  | _, _, .seq h m r => .seq (s.keep _ _ m h) (s.out m h) (RepAll.step s r)
  | _, _, .ty n => .ty n
  | _, _, .emp h m => .emp (s.keep _ _ m h) (s.out m h)
  | _, _, .ptr a => .ptr a
theorem RepAll.step {T : Type} {F : Fam T} {K : PySem.W.Frag} {τ τ' : T} {H H' : Hp} (s : Step F τ H τ' H') : ∀ {vs : List V} {ds : List D}, RepAll K (F.av τ) H vs ds → RepAll K (F.av τ') H' vs ds
  | _, _, .nil => .nil
  | _, _, .cons h t => .cons (Rep.step s h) (RepAll.step s t)
end
theorem REnv.step {T : Type} {F : Fam T} {K : PySem.W.Frag} {τ τ' : T} {H H' : Hp} {σ : L2.St} {ρ : DE} (s : Step F τ H τ' H') (h : REnv K (F.av τ) H σ ρ) : REnv K (F.av τ') H' σ ρ := ⟨h.1, fun i d q => by
  obtain ⟨v, h1, h2⟩ := h.2 i d q
  exact ⟨v, h1, h2.step s⟩⟩
section
variable {T : Type}
structure SEnds (T : Type) where
  nx : T → DE → Prop
  rt : T → D → Prop
  xc : Addr → T → DE → Prop
abbrev TDSS (T : Type) := SEnds T → T → DE → Prop
structure FinSS (K : PySem.W.Frag) (F : Fam T) (W : WX) (τ0 : T) (H : Hp) (e : SEnds T) (E : Ends) : Prop where
  nx : ∀ τ ρ σ H', e.nx τ ρ → REnv K (F.av τ) H' σ ρ → Step F τ0 H τ H' → F.S τ H' → E.nx σ H'
  rt : ∀ τ d v H', e.rt τ d → Rep K (F.av τ) H' v d → Step F τ0 H τ H' → F.S τ H' → E.rt v H'
  xc : ∀ C τ ρ σ H', e.xc C τ ρ → REnv K (F.av τ) H' σ ρ → Step F τ0 H τ H' → F.S τ H' → W (.ref C) none σ H'
theorem FinSS.step {K : PySem.W.Frag} {F : Fam T} {W : WX} {τ0 τ1 : T} {H H' : Hp} {e : SEnds T} {E : Ends} (x : Step F τ0 H τ1 H') (f : FinSS K F W τ0 H e E) : FinSS K F W τ1 H' e E :=
  ⟨fun τ ρ σ H'' h r y s => f.nx τ ρ σ H'' h r (x.trans y) s, fun τ d v H'' h r y s => f.rt τ d v H'' h r (x.trans y) s, fun C τ ρ σ H'' h r y s => f.xc C τ ρ σ H'' h r (x.trans y) s⟩
def tDSS (K : PySem.W.Frag) (F : Fam T) (W : WX) (t : TDSS T) : TS := fun E σ H => ∃ τ ρ e, REnv K (F.av τ) H σ ρ ∧ F.S τ H ∧ t e τ ρ ∧ FinSS K F W τ H e E
abbrev YS (X : Cx) (F : Fam T) (W : WX) (st : Stmt) (t : TDSS T) : Prop := PS X st (tDSS X.K F W t)
abbrev YSs (X : Cx) (F : Fam T) (W : WX) (sts : List Stmt) (t : TDSS T) : Prop := PSs X sts (tDSS X.K F W t)
variable {X : Cx} {F : Fam T} {W : WX} {pos : Pos}
/-- the ends of a statement that leaves the state -/
def SEnds.at (e : SEnds T) (τ : T) : DEnds := ⟨e.nx τ, e.rt τ⟩
theorem FinSS.fin {K : PySem.W.Frag} {H : Hp} {e : SEnds T} {E : Ends} {τ : T} (f : FinSS K F W τ H e E) : FinS K (F.at τ) H (e.at τ) E := ⟨fun ρ σ H' h r y s => f.nx τ ρ σ H' h r (.ext y) s, fun d v H' h r y s => f.rt τ d v H' h r (.ext y) s⟩
/-- a statement that changes nothing of the state: its reading at each state -/
theorem y_lift {st : Stmt} {t : T → TDS} (h : ∀ τ, ES X (F.at τ) st (t τ)) : YS X F W st (fun e τ ρ => t τ (e.at τ) ρ) := ⟨fun pins s σ H E I ⟨τ, ρ, e, r, s', w, f⟩ => (h τ).run pins s σ H E I ⟨ρ, e.at τ, r, s', w, f.fin⟩⟩
theorem ys_lift {sts : List Stmt} {t : T → TDS} (h : ∀ τ, ESs X (F.at τ) sts (t τ)) : YSs X F W sts (fun e τ ρ => t τ (e.at τ) ρ) := ⟨fun pins s σ H E I ⟨τ, ρ, e, r, s', w, f⟩ => (h τ).run pins s σ H E I ⟨ρ, e.at τ, r, s', w, f.fin⟩⟩
theorem ys_nil : YSs X F W [] (fun e τ ρ => e.nx τ ρ) := PSs_imp pss_nil fun E σ H ⟨τ, ρ, e, r, s, w, f⟩ => f.nx τ ρ σ H w r .refl s
def ySeq (t u : TDSS T) : TDSS T := fun e τ ρ => t ⟨u e, e.rt, e.xc⟩ τ ρ
theorem ys_cons {st : Stmt} {rest : List Stmt} {t u : TDSS T} (h1 : YS X F W st t) (h2 : YSs X F W rest u) : YSs X F W (st :: rest) (ySeq t u) := PSs_imp (pss_cons h1 h2) fun E σ H ⟨τ, ρ, e, r, s, w, f⟩ =>
  ⟨τ, ρ, _, r, s, w, ⟨fun τ' ρ' σ' H' w' r' x' s' => ⟨τ', ρ', e, r', s', w', f.step x'⟩, f.rt, f.xc⟩⟩
theorem ys_one {st : Stmt} {t : TDSS T} (h1 : YS X F W st t) : YSs X F W [st] t := pss_one h1
/-- an expression's reading may hang on the state -/
def tDF (K : PySem.W.Frag) (F : Fam T) (t : T → TDE) : TE := fun σ H Q => ∃ τ, tD K (F.at τ) (t τ) σ H Q
def tDTF (K : PySem.W.Frag) (F : Fam T) (t : T → TDT) : TT := fun σ H Q => ∃ τ, tDT K (F.at τ) (t τ) σ H Q
abbrev YE (X : Cx) (F : Fam T) (e : Expr) (t : T → TDE) : Prop := PE X e (tDF X.K F t)
abbrev YT (X : Cx) (F : Fam T) (e : Expr) (t : T → TDT) : Prop := PT X e (tDTF X.K F t)
/-- what holds at each state -/
theorem y_all {e : Expr} {t : T → TDE} (h : ∀ τ, EE X (F.at τ) e (t τ)) : YE X F e t := ⟨fun pins s σ H Q I ⟨τ, w⟩ => (h τ).run pins s σ H Q I w⟩
theorem yt_all {e : Expr} {t : T → TDT} (h : ∀ τ, ET X (F.at τ) e (t τ)) : YT X F e t := ⟨fun pins s σ H Q I ⟨τ, w⟩ => (h τ).run pins s σ H Q I w⟩
def ySet (i : Nat) (t : T → TDE) : TDSS T := fun e τ ρ => t τ ρ fun d => e.nx τ (ρ.set i (some d))
theorem y_set {i : Nat} {x : Str} {e : Expr} {t : T → TDE} {pos' : Pos} (nd : X.N.Nodup) (he : YE X F e t) (hi : X.N[i]? = some x := by rfl) (hx : Loc X.env.scope x := by first | exact Or.inl rfl | exact Or.inr rfl)
    (hs : swapsWith e (some (.Name x pos')) pos.line X.env = pure false := by rfl) (hf : X.fn x = true ∨ X.env.scope.names.lookup x = some .local := by first | exact .inl rfl | exact .inr rfl) : YS X F W (.Assign [.Name x pos'] e pos) (ySet i t) :=
  PS_imp (ps_set nd hi hx he hs hf) fun E σ H ⟨τ, ρ, en, r, s, w, f⟩ => ⟨τ, ρ, _, r, s, w, fun d v H1 w1 r1 e1 s1 => f.nx τ _ _ H1 w1 (REnv.set (r.step (.ext (τ := τ) e1)) r1 i) (.ext e1) s1⟩
def yRet (t : T → TDE) : TDSS T := fun e τ ρ => t τ ρ (e.rt τ)
theorem y_ret {e : Expr} {t : T → TDE} (he : YE X F e t) : YS X F W (.Return (some e) pos) (yRet t) := PS_imp (ps_ret he) fun E σ H ⟨τ, ρ, en, r, s, w, f⟩ => ⟨τ, ρ, _, r, s, w, fun d v H1 w1 r1 e1 s1 => f.rt τ d v H1 w1 r1 (.ext e1) s1⟩
def yIf (c : T → TDT) (t u : TDSS T) : TDSS T := fun e τ ρ => c τ ρ fun b => if b = true then t e τ ρ else u e τ ρ
theorem y_if {c : Expr} {a b : List Stmt} {tc : T → TDT} {t u : TDSS T} (hc : YT X F c tc) (ha : YSs X F W a t) (hb : YSs X F W b u) : YS X F W (.If c a b pos) (yIf tc t u) := PS_imp (ps_if hc ha hb) fun E σ H ⟨τ, ρ, en, r, s, w, f⟩ => by
  refine ⟨τ, ρ, _, r, s, w, fun k H1 w1 e1 s1 => ?_⟩
  have e1 : Step F τ H τ H1 := .ext e1
  have r1 : REnv X.K (F.av τ) H1 σ ρ := r.step e1
  cases k with
  | true => rw [if_pos rfl] at w1; exact iteT ⟨τ, ρ, en, r1, s1, w1, f.step e1⟩
  | false => rw [if_neg Bool.false_ne_true] at w1; exact iteF ⟨τ, ρ, en, r1, s1, w1, f.step e1⟩
/-! ### for, over a state -/
def tDIF (K : PySem.W.Frag) (F : Fam T) (t : T → TDI) : TI := fun σ H Wk => ∃ τ, tDI K (F.at τ) (t τ) σ H Wk
abbrev YI (X : Cx) (F : Fam T) (tg iter : Expr) (t : T → TDI) : Prop := PI X tg iter (tDIF X.K F t)
theorem yi_all {tg iter : Expr} {t : T → TDI} (h : ∀ τ, EI X (F.at τ) tg iter (t τ)) : YI X F tg iter t := ⟨fun pins s σ H Wk I ⟨τ, w⟩ => (h τ).run pins s σ H Wk I w⟩
def yFor (i : Nat) (w : T → TDI) (tb : TDSS T) : TDSS T := fun e τ ρ => w τ ρ fun ds => ∃ Iv : Nat → T → DE → Prop, Iv 0 τ ρ ∧ (∀ j d τ' ρ', ds[j]? = some d → Iv j τ' ρ' → tb ⟨Iv (j + 1), e.rt, e.xc⟩ τ' (ρ'.set i (some d))) ∧ ∀ τ' ρ', Iv ds.length τ' ρ' → e.nx τ' ρ'
theorem y_for {i : Nat} {x : Str} {px : Pos} {iter : Expr} {body : List Stmt} {w : T → TDI} {tb : TDSS T} (nd : X.N.Nodup) (hp : PassesOwn (model X.prog X.w) X.A X.env X.xe) (hc : X.calm = true) (hi : YI X F (.Name x px) iter w) (hb : YSs X F W body tb)
    (hx : X.N[i]? = some x := by rfl) (hl : Loc X.env.scope x := by first | exact Or.inl rfl | exact Or.inr rfl) (hf : X.fn x = true ∨ X.env.scope.names.lookup x = some .local := by first | exact .inl rfl | exact .inr rfl)
    (hs : ∀ x, foldedSetIterable iter X.env x = pure x := by intro _; rfl) : YS X F W (.For (.Name x px) iter body [] pos) (yFor i w tb) :=
  PS_imp (ps_for hp hc hi (pg_name nd hx hl hf) hb hs) fun E σ H ⟨τ, ρ, en, r, s, w, f⟩ => by
    refine ⟨τ, ρ, _, r, s, w, ?_⟩
    rintro ds J H1 ⟨Iv, h0, hstep, hend⟩ ⟨G, Y, wk, gs, ys⟩ e1 s1
    have e1 : Step F τ H τ H1 := .ext e1
    refine for_it wk (fun j σ' H' => j ≤ ds.length ∧ ∃ τ' ρ', Step F τ H1 τ' H' ∧ F.S τ' H' ∧ REnv X.K (F.av τ') H' σ' ρ' ∧ Iv j τ' ρ') ⟨Nat.zero_le _, τ, ρ, .refl, s1, r.step e1, h0⟩ (fun j σ' H' _ ⟨_, τ', _, e2, _⟩ => gs H' e2.keep') ?_ ?_
    · rintro j x σ' H' H'' hj ⟨_, τ', ρ', e2, s2, r2, iv⟩ hy
      obtain ⟨rfl, d, hd, rd⟩ := ys j H' x H'' hj e2.keep' hy
      refine ⟨τ', ρ'.set i (some d), _, REnv.set r2 (Rep.step (τ := τ) e2 rd) i, s2, hstep j d τ' ρ' hd iv, ⟨fun τ3 ρ3 σ3 H3 w3 r3 e3 s3 => ?_, fun τ3 d3 v3 H3 w3 r3 e3 s3 => f.rt τ3 d3 v3 H3 w3 r3 ((e1.trans e2).trans e3) s3, fun C τ3 ρ3 σ3 H3 w3 r3 e3 s3 => f.xc C τ3 ρ3 σ3 H3 w3 r3 ((e1.trans e2).trans e3) s3⟩⟩
      exact ⟨hj, τ3, ρ3, e2.trans e3, s3, r3, w3⟩
    · rintro σ' H' ⟨_, τ', ρ', e2, s2, r2, iv⟩
      exact f.nx τ' ρ' σ' H' (hend τ' ρ' iv) r2 (e1.trans e2) s2
/-! ### expressions that may change the state, or raise -/
abbrev TDY (T : Type) := T → DE → (T → D → Prop) → (Addr → T → Prop) → Prop
def tDY (K : PySem.W.Frag) (F : Fam T) (W : WX) (t : TDY T) : TE := fun σ H Q => ∃ τ ρ q x, REnv K (F.av τ) H σ ρ ∧ F.S τ H ∧ t τ ρ q x ∧ (∀ τ' d v H', q τ' d → Rep K (F.av τ') H' v d → Step F τ H τ' H' → F.S τ' H' → Q v H') ∧ ∀ C τ' H', x C τ' → Step F τ H τ' H' → F.S τ' H' → W (.ref C) none σ H'
abbrev YC (X : Cx) (F : Fam T) (W : WX) (e : Expr) (t : TDY T) : Prop := PE X e (tDY X.K F W t)
theorem c_lift {e : Expr} {t : T → TDE} (h : ∀ τ, EE X (F.at τ) e (t τ)) : YC X F W e (fun τ ρ q _ => t τ ρ (q τ)) := ⟨fun pins s σ H Q I ⟨τ, ρ, q, x, r, s', w, f, g⟩ => (h τ).run pins s σ H Q I ⟨ρ, q τ, r, s', w, fun d v H' a b c d' => f τ d v H' a b (.ext c) d'⟩⟩
theorem y_setC {i : Nat} {x : Str} {e : Expr} {t : TDY T} {pos' : Pos} (nd : X.N.Nodup) (he : YC X F W e t) (hi : X.N[i]? = some x := by rfl) (hx : Loc X.env.scope x := by first | exact Or.inl rfl | exact Or.inr rfl)
    (hs : swapsWith e (some (.Name x pos')) pos.line X.env = pure false := by rfl) (hf : X.fn x = true ∨ X.env.scope.names.lookup x = some .local := by first | exact .inl rfl | exact .inr rfl) : YS X F W (.Assign [.Name x pos'] e pos) (fun en τ ρ => t τ ρ (fun τ' d => en.nx τ' (ρ.set i (some d))) (fun C τ' => en.xc C τ' ρ)) :=
  PS_imp (ps_set nd hi hx he hs hf) fun E σ H ⟨τ, ρ, en, r, s, w, f⟩ => ⟨τ, ρ, _, _, r, s, w, fun τ' d v H1 w1 r1 e1 s1 => f.nx τ' _ _ H1 w1 (REnv.set (r.step e1) r1 i) e1 s1,
    fun C τ' H1 w1 e1 s1 => f.xc C τ' ρ σ H1 w1 (r.step e1) e1 s1⟩
theorem y_retC {e : Expr} {t : TDY T} (he : YC X F W e t) : YS X F W (.Return (some e) pos) (fun en τ ρ => t τ ρ en.rt (fun C τ' => en.xc C τ' ρ)) := PS_imp (ps_ret he) fun E σ H ⟨τ, ρ, en, r, s, w, f⟩ => ⟨τ, ρ, _, _, r, s, w, f.rt,
    fun C τ' H1 w1 e1 s1 => f.xc C τ' ρ σ H1 w1 (r.step e1) e1 s1⟩
theorem y_exprC {e : Expr} {t : TDY T} (he : YC X F W e t) (hs : swapsWith e none pos.line X.env = pure false := by rfl) : YS X F W (.Expr e pos) (fun en τ ρ => t τ ρ (fun τ' _ => en.nx τ' ρ) (fun C τ' => en.xc C τ' ρ)) := PS_imp (ps_expr he hs) fun E σ H ⟨τ, ρ, en, r, s, w, f⟩ => ⟨τ, ρ, _, _, r, s, w, fun τ' d v H1 w1 r1 e1 s1 => f.nx τ' ρ σ H1 w1 (r.step e1) e1 s1,
    fun C τ' H1 w1 e1 s1 => f.xc C τ' ρ σ H1 w1 (r.step e1) e1 s1⟩
theorem y_raise {C : Addr} {bmB : List Value} {B newId initId : String} {x m : Str} {j : Nat} {p p2 pos1 : Pos} (hc : X.calm = true) (tk : Takes X W) (Fb : ExcBaseFacts B newId initId bmB) (q : PySem.W.excIn X.K C bmB newId = true) (gC : X.mg x = some (.ref C)) (kC : PySem.W.keepIn X.K (.ref C) = true) (r : Raises X (.ref C)) (hg : Gl X x := by rfl)
    (hdb : (x == ("__debug__" : Str)) = false := by decide) : YS X F W (.Raise (some (.Call (.Name x p) [.Constant (.str m) j p2] [] pos)) none pos1) (fun en τ ρ => en.xc C τ ρ) :=
  PS_imp (ps_raise hc tk (pmk_own Fb q gC kC r hg hdb)) fun E σ H ⟨τ, ρ, en, r, s, w, f⟩ => f.xc C τ ρ σ H w r .refl s
/-! ### promises over a state -/
abbrev DCallY (T : Type) := List D → T → (T → D → Prop) → (Addr → T → Prop) → Prop
def spY (K : PySem.W.Frag) (F : Fam T) (Fd : DCallY T) : Sp := fun vs H Q E => ∃ ds τ q x, RepAll K (F.av τ) H vs ds ∧ F.S τ H ∧ Fd ds τ q x ∧ (∀ τ' d v H', q τ' d → Rep K (F.av τ') H' v d → Step F τ H τ' H' → F.S τ' H' → Q v H') ∧ ∀ C τ' H', x C τ' → Step F τ H τ' H' → F.S τ' H' → E (.ref C) none H'
def vCallY (Fd : DCallY T) (ta : T → TDA) : TDY T := fun τ ρ q x => ta τ ρ fun ds => Fd ds τ q x
theorem c_call {k : Nat} {x : Str} {p : Pos} {e : Expr} {es : List Expr} {ta : T → TDA} {Fd : DCallY T} {ps : List Str} (G : DefX X.prog X.w X.K X.mg X.base x ps k (spY X.K F Fd)) (tk : Takes X W) (hr : Room k X.A) (hgd : X.A.guards = some []) (ha : ∀ τ, EA X (F.at τ) (e :: es) (ta τ)) (hg : Gl X x := by rfl)
    (hdb : (x == ("__debug__" : Str)) = false := by decide) (he : starEach (e :: es) X.env = (false, eval e X.env) :: starEach es X.env := by rfl) (hpl : (backTo pos (starEach es X.env)).any (·.1) = false := by rfl) :
    YC X F W (.Call (.Name x p) (e :: es) [] pos) (vCallY Fd ta) := by
  obtain ⟨f, fd, G, hm, hk, hb, _⟩ := G.ex
  have ha' : PA X (e :: es) (fun σ H Q => ∃ τ, tDA X.K (F.at τ) (ta τ) σ H Q) := ⟨fun pos pins s σ H Q I ⟨τ, w⟩ => (ha τ).run pos pins s σ H Q I w⟩
  refine PE_imp (pe_callX (E := WE W) G hr hgd hg hm hk hb (fun σ => passAt tk σ) ha' hdb he hpl) fun σ H Q ⟨τ, ρ, q, xx, r, s, w, f1, g1⟩ => ?_
  refine ⟨τ, ρ, _, r, s, w, fun ds vs H1 w1 r1 e1 s1 => ?_⟩
  exact ⟨ds, τ, q, xx, r1, s1, w1, fun τ' d v H2 w2 r2 e2 s2 => f1 τ' d v H2 w2 r2 (Step.trans (.ext e1) e2) s2, fun C τ' H2 w2 e2 s2 => g1 C τ' H2 w2 (Step.trans (.ext e1) e2) s2⟩
end
/-- THE RULE for a def over a state -/
theorem FunY.ok {T : Type} {F : Fam T} {P : Program} {w : World} {K : PySem.W.Frag} {mg : Str → Option Value} {base : Heap} {x qual : Str} {st : Stmt} {f : Addr} {fd : FuncData} {N ps : List Str} {k : Nat} {Fd : DCallY T} (G : Fun K x qual st f fd) (S : FnScope N ps (defScope st)) (len : ∀ ds τ q x, Fd ds τ q x → ds.length = ps.length)
    (hbody : ∀ (cdv : Value) (A : Around) (outer : List Env) (s : Shared) (H : Hp) (E : XK) (ds : List D) (τ : T) (q : T → D → Prop) (x : Addr → T → Prop), Room k (A.deeper (envOfC qual (defScope st) s.heap.objs.size f cdv)) → A.guards = some [] → Fd ds τ q x →
      ∃ t, YSs (cxOf (L2.CX P w) P w K mg base N qual (defScope st) f cdv A outer s H E) F (fun cls d _ H' => E cls d H') (defBody st) t ∧ t ⟨fun τ' _ => q τ' .non, q, fun C τ' _ => x C τ'⟩ τ (startD N ds)) : FnX P w K mg base (k + 1) f fd ps (spY K F Fd) := by
  obtain ⟨oc, od, kV, doc, pm, an, cdv, ct, osl, rfl, lk, hcd⟩ := G.ex
  refine fn_ofX lk hcd S (fun vs H Q E ⟨ds, τ, q, x, r, _, h, _⟩ => by rw [r.length]; exact len ds τ q x h) fun A outer s H vs Q E hr hg ⟨ds, τ, q, x, r, o, h, f1, g1⟩ => ?_
  obtain ⟨t, ht, hq⟩ := hbody cdv A outer s H E ds τ q x hr hg h
  exact ⟨_, ht, τ, _, _, start_env (R := F.at τ) r, o, hq, ⟨fun τ' ρ σ H' w' r' e' s' => f1 τ' _ _ H' w' .non e' s', f1, fun C τ' ρ σ H' hx r' e' s' => g1 C τ' H' hx e' s'⟩⟩
end Dl

set_option Elab.async false
set_option linter.all false
set_option maxRecDepth 100000
set_option maxHeartbeats 4000000
namespace Dl
open PySem PySem.Spec PyProof.Rows L2
/-! ## a dict whose keys are tuples, by its own entries: the key, its own tuple, the value -/
def DctT (P : Program) (w : World) (a : Addr) (xs : List (List Key × Addr × Value)) (o : Obj) (h : Heap) : Prop :=
  xs.length ≤ sizeLine ∧ (a == sysModules) = false ∧ h.get? a = some o ∧ ∃ es ep, o.ExactDict ∧ o.data = .dict es ep ∧ es.toList = xs.map (entryOfKey (tupleKind (mixKind P w))) ∧ (xs.map (·.1)).Nodup
def DctO (P : Program) (w : World) (a : Addr) (xs : List (List Key × Addr × Value)) (o : Obj) : HO := .ext (DctT P w a xs o)
def pairD (p : Int × Int) : D := .tup [.int p.1, .int p.2]
/-- a pair of whole numbers as a key -/
def key2 (k : Int × Int) : List Key := [.inl k.1, .inl k.2]
/-- an entry: its key's tuple is data, its value is flat -/
def EntR (K : PySem.W.Frag) (p : List Addr) (H : Hp) (kv : (Int × Int) × D) (x : List Key × Addr × Value) : Prop := x.1 = key2 kv.1 ∧ Rep K p H (.ref x.2.1) (pairD kv.1) ∧ flatD kv.2 = true ∧ RelV (dvOf kv.2) x.2.2
/-! ## the objects of the state, by their addresses -/
inductive SO where
  | lst (xs : List D)
  | dic (kvs : List (Key × D))
  | ins (C dx : Addr) (fs : List (Str × D))
  | dct (P : Program) (w : World) (kvs : List ((Int × Int) × D))
abbrev Sy := List (Addr × SO)
def sget : Sy → Addr → Option SO
  | [], _ => none
  | (b, o) :: τ, a => if a = b then some o else sget τ a
theorem sget_self {τ : Sy} {a : Addr} {o : SO} : sget ((a, o) :: τ) a = some o := if_pos rfl
theorem sget_ne {τ : Sy} {a b : Addr} {o : SO} (h : b ≠ a) : sget ((a, o) :: τ) b = sget τ b := if_neg h
theorem sget_mem : ∀ {τ : Sy} {a : Addr} {o : SO}, sget τ a = some o → a ∈ τ.map (·.1)
  | [], _, _, h => by cases h
  | (b, o') :: τ, a, o, h => by
    by_cases e : a = b
    · rw [e]; exact List.mem_cons_self
    · rw [sget_ne e] at h
      exact List.mem_cons_of_mem _ (sget_mem h)
theorem mem_sget : ∀ {τ : Sy} {a : Addr}, a ∈ τ.map (·.1) → ∃ o, sget τ a = some o
  | [], _, h => by cases h
  | (b, o') :: τ, a, h => by
    by_cases e : a = b
    · exact ⟨o', by rw [e]; exact sget_self⟩
    · rw [List.map_cons] at h
      rcases List.mem_cons.mp h with h | h
      · exact absurd h e
      · obtain ⟨o, ho⟩ := mem_sget h
        exact ⟨o, by rw [sget_ne e]; exact ho⟩
/-- pairs of a key and data -/
inductive PairR {α : Type} (K : PySem.W.Frag) (p : List Addr) (H : Hp) : List (α × V) → List (α × D) → Prop
  | nil : PairR K p H [] []
  | cons {k : α} {v : V} {d : D} {ks : List (α × V)} {kvs : List (α × D)} (r : Rep K p H v d) (t : PairR K p H ks kvs) : PairR K p H ((k, v) :: ks) ((k, d) :: kvs)
theorem PairR.of {α : Type} {K : PySem.W.Frag} {p p' : List Addr} {H H' : Hp} (hr : ∀ v d, Rep K p H v d → Rep K p' H' v d) {ks : List (α × V)} {kvs : List (α × D)} (h : PairR K p H ks kvs) : PairR K p' H' ks kvs := by
  induction h with
  | nil => exact .nil
  | cons r t ih => exact .cons (hr _ _ r) ih
theorem PairR.length {α : Type} {K : PySem.W.Frag} {p : List Addr} {H : Hp} {ks : List (α × V)} {kvs : List (α × D)} (h : PairR K p H ks kvs) : ks.length = kvs.length := by
  induction h with
  | nil => rfl
  | cons r t ih => rw [List.length_cons, List.length_cons, ih]
/-- what stands for it in the heap, tracked -/
def Hold (K : PySem.W.Frag) (p : List Addr) (H : Hp) (a : Addr) : SO → Prop
  | .lst xs => ∃ vs, H a = some (.lst vs) ∧ RepAll K p H vs xs
  | .dic kvs => ∃ ks, H a = some (.dK ks) ∧ PairR K p H ks kvs
  | .ins C dx fs => ∃ gs, H a = some (.ins C dx gs) ∧ PairR K p H gs fs
  | .dct P w kvs => ∃ xs o, H a = some (DctO P w a xs o) ∧ Paired (EntR K p H) kvs xs
theorem Hold.ex {K : PySem.W.Frag} {p : List Addr} {H : Hp} {a : Addr} : ∀ {o : SO}, Hold K p H a o → ∃ u, H a = some u
  | .lst _, ⟨_, h, _⟩ => ⟨_, h⟩
  | .dic _, ⟨_, h, _⟩ => ⟨_, h⟩
  | .ins _ _ _, ⟨_, h, _⟩ => ⟨_, h⟩
  | .dct _ _ _, ⟨_, _, h, _⟩ => ⟨_, h⟩
theorem RepAll.of {K : PySem.W.Frag} {p p' : List Addr} {H H' : Hp} (hr : ∀ v d, Rep K p H v d → Rep K p' H' v d) : ∀ {vs : List V} {ds : List D}, RepAll K p H vs ds → RepAll K p' H' vs ds
  | _, _, .nil => .nil
  | _, _, .cons r t => .cons (hr _ _ r) (RepAll.of hr t)
/-- all that is Rep'd goes over, and the object itself stands -/
theorem Hold.of {K : PySem.W.Frag} {p p' : List Addr} {H H' : Hp} {a : Addr} (hr : ∀ v d, Rep K p H v d → Rep K p' H' v d) (ha : ∀ u, H a = some u → H' a = some u) : ∀ {o : SO}, Hold K p H a o → Hold K p' H' a o
  | .lst _, ⟨_, h, r⟩ => ⟨_, ha _ h, r.of hr⟩
  | .dic _, ⟨_, h, r⟩ => ⟨_, ha _ h, r.of hr⟩
  | .ins _ _ _, ⟨_, h, r⟩ => ⟨_, ha _ h, r.of hr⟩
  | .dct _ _ _, ⟨_, _, h, r⟩ => ⟨_, _, ha _ h, Paired.mapP r fun _ _ z => ⟨z.1, hr _ _ z.2.1, z.2.2⟩⟩
/-- the state's family over a resource whose own knowledge of what stays is none -/
def symF (K : PySem.W.Frag) (R0 : Res) (h0 : ∀ H, R0.Ss H) : Fam Sy where
  p := R0.p
  n := fun τ => τ.map (·.1) ++ R0.n
  Sp := R0.Sp
  Ss := fun τ H => ∀ a so, sget τ a = some so → a ∉ R0.p ++ R0.n ∧ Hold K (R0.p ++ (τ.map (·.1) ++ R0.n)) H a so
  nin := fun τ H a h s n m => by
    rcases List.mem_append.mp m with m | m
    · exact R0.nin H a h (h0 H) n (List.mem_append_left _ m)
    · rcases List.mem_append.mp m with m | m
      · obtain ⟨o, ho⟩ := mem_sget m
        obtain ⟨u, hu⟩ := (s a o ho).2.ex
        rw [n] at hu; cases hu
      · exact R0.nin H a h (h0 H) n (List.mem_append_right _ m)
  dep := R0.dep
  mono := fun τ H H' e s a so g => ⟨(s a so g).1, Hold.of (fun v d r => Rep.mono0 (fun b o nb hb => e b o (fun m => nb (List.mem_append_left _ m)) hb) r)
    (fun u hu => e a u (fun m => (s a so g).1 (List.mem_append_left _ m)) hu) (s a so g).2⟩
/-- the state's objects are known -/
def SymAt (K : PySem.W.Frag) (τ : Sy) (R : Res) : Prop := ∀ H, Pot R H → ∀ a so, sget τ a = some so → Hold K R.av H a so
section
variable {K : PySem.W.Frag} {R0 : Res} {h0 : ∀ H, R0.Ss H} {τ : Sy} {H : Hp}
theorem symAt : SymAt K τ ((symF K R0 h0).at τ) := fun H s a so g => (s.2 a so g).2
theorem RepAll.strongs {R : Res} {A : Addr} (n : H A = none) {vs : List V} {ds : List D} (h : RepAll K R.av H vs ds) : RepAll K (R.add A).av H vs ds := by
  induction ds generalizing vs with
  | nil => cases h; exact .nil
  | cons d ds ih =>
    cases h with
    | cons r t => exact .cons (r.strong n) (ih t)
/-- a new object of the state -/
theorem new_step {a : Addr} {so : SO} {ho : HO} (n : H a = none) : Step (symF K R0 h0) τ H ((a, so) :: τ) (upd H a ho) :=
  ⟨fun b o m e => by
    have ne : b ≠ a := fun q => by rw [q, n] at e; cases e
    rw [upd_ne ne]; exact e, fun b m => by
    have m' : b ∈ a :: (τ.map (·.1) ++ R0.n) := m
    rcases List.mem_cons.mp m' with rfl | m'
    · exact .inr n
    · exact .inl (List.mem_append_right _ m')⟩
theorem set_step {a : Addr} {o so : SO} {ho : HO} (g : sget τ a = some o) : Step (symF K R0 h0) τ H ((a, so) :: τ) (upd H a ho) := by
  have ma : a ∈ (symF K R0 h0).av τ := List.mem_append_right _ (List.mem_append_left _ (sget_mem g))
  refine ⟨fun b o m e => ?_, fun b m => ?_⟩
  · have ne : b ≠ a := fun q => m (q ▸ ma)
    rw [upd_ne ne]; exact e
  · have m' : b ∈ a :: (τ.map (·.1) ++ R0.n) := m
    rcases List.mem_cons.mp m' with rfl | m'
    · exact .inl ma
    · exact .inl (List.mem_append_right _ m')
theorem new_ok {a : Addr} {so : SO} {ho : HO} (s : (symF K R0 h0).S τ H) (n : H a = none) (hh : Hold K ((symF K R0 h0).av ((a, so) :: τ)) (upd H a ho) a so) : (symF K R0 h0).S ((a, so) :: τ) (upd H a ho) := by
  have nav : a ∉ (symF K R0 h0).av τ := (symF K R0 h0).nin τ H a s.1 s.2 n
  refine ⟨R0.dep H _ (fun b m => upd_ne (fun e => nav (e ▸ List.mem_append_left _ m))) s.1, fun b o g => ?_⟩
  by_cases e : b = a
  · subst e
    rw [sget_self] at g
    cases g
    refine ⟨fun m => ?_, hh⟩
    rcases List.mem_append.mp m with m | m
    · exact nav (List.mem_append_left _ m)
    · exact nav (List.mem_append_right _ (List.mem_append_right _ m))
  · rw [sget_ne e] at g
    have st : Step (symF K R0 h0) τ H ((a, so) :: τ) (upd H a ho) := new_step n
    exact ⟨(s.2 b o g).1, Hold.of (fun v d r => Rep.step st r) (fun u hu => by rw [upd_ne e]; exact hu) (s.2 b o g).2⟩
theorem set_ok {a : Addr} {o so : SO} {ho : HO} (s : (symF K R0 h0).S τ H) (g : sget τ a = some o) (hh : Hold K ((symF K R0 h0).av ((a, so) :: τ)) (upd H a ho) a so) : (symF K R0 h0).S ((a, so) :: τ) (upd H a ho) := by
  have na := (s.2 a o g).1
  refine ⟨R0.dep H _ (fun b m => upd_ne (fun e => na (e ▸ List.mem_append_left _ m))) s.1, fun b o' g' => ?_⟩
  by_cases e : b = a
  · subst e
    rw [sget_self] at g'
    cases g'
    exact ⟨na, hh⟩
  · rw [sget_ne e] at g'
    have st : Step (symF K R0 h0) τ H ((a, so) :: τ) (upd H a ho) := set_step g
    exact ⟨(s.2 b o' g').1, Hold.of (fun v d r => Rep.step st r) (fun u hu => by rw [upd_ne e]; exact hu) (s.2 b o' g').2⟩
theorem Fam.avx {T : Type} {F : Fam T} {τ : T} : (F.at τ).av = F.av τ := rfl
theorem RepAll.steps {T : Type} {F : Fam T} {τ τ' : T} {H' : Hp} (s : Step F τ H τ' H') {vs : List V} {ds : List D} (r : RepAll K (F.av τ) H vs ds) : RepAll K (F.av τ') H' vs ds := RepAll.step s r
/-! ### attributes, keys -/
theorem lookup_of {p : List Addr} {gs : List (Str × V)} {fs : List (Str × D)} {f : Str} {d : D} (r : PairR K p H gs fs) (h : fs.lookup f = some d) : ∃ v, gs.lookup f = some v ∧ Rep K p H v d := by
  induction r with
  | nil => cases h
  | @cons g v d' gs fs r t ih =>
    rw [List.lookup_cons] at h ⊢
    cases q : f == g with
    | true => rw [q] at h; cases h; exact ⟨v, rfl, r⟩
    | false => rw [q] at h; exact ih h
theorem lookup_no {p : List Addr} {gs : List (Str × V)} {fs : List (Str × D)} {f : Str} (r : PairR K p H gs fs) (h : fs.lookup f = none) : gs.lookup f = none := by
  induction r with
  | nil => rfl
  | @cons g v d' gs fs r t ih =>
    rw [List.lookup_cons] at h ⊢
    cases q : f == g with
    | true => rw [q] at h; cases h
    | false => rw [q] at h; exact ih h
/-- putF on data -/
def putD (f : Str) (y : D) : List (Str × D) → List (Str × D)
  | [] => [(f, y)]
  | (g, d) :: fs => if g = f then (g, y) :: fs else (g, d) :: putD f y fs
theorem put_of {p : List Addr} {gs : List (Str × V)} {fs : List (Str × D)} {f : Str} {y : V} {d : D} (r : PairR K p H gs fs) (ry : Rep K p H y d) : PairR K p H (putF f y gs) (putD f d fs) := by
  induction r with
  | nil => exact .cons ry .nil
  | @cons g v d' gs fs r t ih =>
    unfold putF putD
    by_cases q : g = f
    · rw [if_pos q, if_pos q]; exact .cons ry t
    · rw [if_neg q, if_neg q]; exact .cons r ih
def valD (kvs : List (Key × D)) (k : Key) : Option D := (kvs.find? fun kv => decide (kv.1 = k)).map (·.2)
def putKD (kvs : List (Key × D)) (k : Key) (d : D) : List (Key × D) := if (kvs.any fun kv => decide (kv.1 = k)) = true then kvs.map (fun kv => if kv.1 = k then (kv.1, d) else kv) else kvs ++ [(k, d)]
def mergeD (kvs more : List (Key × D)) : List (Key × D) := more.foldl (fun acc kv => putKD acc kv.1 kv.2) kvs
theorem val_of {p : List Addr} {ks : List (Key × V)} {kvs : List (Key × D)} {k : Key} (r : PairR K p H ks kvs) : (∀ d, valD kvs k = some d → ∃ v, valV ks k = some v ∧ Rep K p H v d) ∧ (valD kvs k = none → valV ks k = none) := by
  induction r with
  | nil => exact ⟨fun d h => (by cases h), fun _ => rfl⟩
  | @cons k' v d' ks kvs r t ih =>
    by_cases q : k' = k
    · have e1 : valD ((k', d') :: kvs) k = some d' := by simp [valD, q]
      have e2 : valV ((k', v) :: ks) k = some v := by simp [valV, q]
      rw [e1, e2]
      exact ⟨fun d h => (by cases h; exact ⟨v, rfl, r⟩), fun h => (by cases h)⟩
    · have e1 : valD ((k', d') :: kvs) k = valD kvs k := by simp [valD, q]
      have e2 : valV ((k', v) :: ks) k = valV ks k := by simp [valV, q]
      rw [e1, e2]
      exact ih
theorem PairR.anyK {p : List Addr} {ks : List (Key × V)} {kvs : List (Key × D)} {k : Key} (r : PairR K p H ks kvs) : (ks.any fun kv => decide (kv.1 = k)) = (kvs.any fun kv => decide (kv.1 = k)) := by
  induction r with
  | nil => rfl
  | cons r t ih => rw [List.any_cons, List.any_cons, ih]
theorem PairR.append {α : Type} {p : List Addr} {ks : List (α × V)} {kvs : List (α × D)} {k : α} {v : V} {d : D} (r : PairR K p H ks kvs) (rv : Rep K p H v d) : PairR K p H (ks ++ [(k, v)]) (kvs ++ [(k, d)]) := by
  induction r with
  | nil => exact .cons rv .nil
  | cons r t ih => exact .cons r ih
theorem putK_of {p : List Addr} {ks : List (Key × V)} {kvs : List (Key × D)} {k : Key} {v : V} {d : D} (r : PairR K p H ks kvs) (rv : Rep K p H v d) : PairR K p H (putK ks k v) (putKD kvs k d) := by
  unfold putK putKD
  rw [r.anyK]
  split
  · rename_i hh
    clear hh
    induction r with
    | nil => exact .nil
    | @cons k' v' d' ks kvs r t ih =>
      rw [List.map_cons, List.map_cons]
      by_cases q : k' = k
      · rw [if_pos q, if_pos q]; exact .cons rv ih
      · rw [if_neg q, if_neg q]; exact .cons r ih
  · exact r.append rv
theorem merge_of {p : List Addr} {more : List (Key × V)} {mored : List (Key × D)} (m : PairR K p H more mored) : ∀ {ks : List (Key × V)} {kvs : List (Key × D)}, PairR K p H ks kvs → PairR K p H (mergeK ks more) (mergeD kvs mored) := by
  induction m with
  | nil => intro ks kvs r; exact r
  | cons rv t ih => intro ks kvs r; exact ih (putK_of r rv)
/-- a key, as data -/
def keyD : D → Option Key
  | .int i => some (.inl i)
  | .str x => some (.inr x)
  | _ => none
theorem key_rep {p : List Addr} {v : V} {d : D} {k : Key} (r : Rep K p H v d) (h : keyD d = some k) : v = kV k := by
  cases r <;> first | (cases h; rfl) | cases h
end
section
variable {X : Cx} {R0 : Res} {h0 : ∀ H, R0.Ss H} {W : WX} {pos : Pos} {R : Res} {τ : Sy}
/-- o.f, read -/
def vFld (K : PySem.W.Frag) (τ : Sy) (f : Str) (t : TDE) : TDE := fun ρ q => t ρ fun d => ∃ a C dx fs v, d = .ptr a ∧ sget τ a = some (.ins C dx fs) ∧ Cls K C ∧ NoAttr K C f ∧ fs.lookup f = some v ∧ q v
theorem d_fld {e : Expr} {f : Str} {t : TDE} (S : SymAt X.K τ R) (he : EE X R e t) (hb : attributeBase e f X.env (eval e X.env) = eval e X.env := by rfl) : EE X R (.Attribute e f pos) (vFld X.K τ f t) := PE_imp (pe_fld he hb) fun σ H Q ⟨ρ, q, r, o, w, fi⟩ => by
  refine ⟨ρ, _, r, o, w, ?_⟩
  rintro d v H1 ⟨a, C, dx, fs, d', rfl, g, c, n, l, w1⟩ r1 e1 o1
  cases r1
  obtain ⟨gs, hh, ra⟩ := S H1 o1 a _ g
  obtain ⟨u, hu, ru⟩ := lookup_of ra l
  exact ⟨a, C, dx, gs, u, rfl, hh, c, n, hu, fi _ _ H1 w1 ru e1 o1⟩
/-! ### values that change the state: rows of them -/
abbrev TDYA := Sy → DE → (Sy → List D → Prop) → (Addr → Sy → Prop) → Prop
abbrev SF (K : PySem.W.Frag) (R0 : Res) (h0 : ∀ H, R0.Ss H) : Fam Sy := symF K R0 h0
def tDYA (K : PySem.W.Frag) (F : Fam Sy) (W : WX) (t : TDYA) : TA := fun σ H Q => ∃ τ ρ q x, REnv K (F.av τ) H σ ρ ∧ F.S τ H ∧ t τ ρ q x ∧ (∀ τ' ds vs H', q τ' ds → RepAll K (F.av τ') H' vs ds → Step F τ H τ' H' → F.S τ' H' → Q vs H') ∧ ∀ C τ' H', x C τ' → Step F τ H τ' H' → F.S τ' H' → W (.ref C) none σ H'
abbrev YA (X : Cx) (F : Fam Sy) (W : WX) (es : List Expr) (t : TDYA) : Prop := PA X es (tDYA X.K F W t)
variable {F : Fam Sy}
def cNil : TDYA := fun τ _ q _ => q τ []
def cCons (t : TDY Sy) (u : TDYA) : TDYA := fun τ ρ q x => t τ ρ (fun τ1 d => u τ1 ρ (fun τ2 ds => q τ2 (d :: ds)) x) x
theorem ya_nil : YA X F W [] cNil := PA_imp pa_nil fun σ H Q ⟨τ, ρ, q, x, r, s, w, f, g⟩ => f τ [] [] H w .nil .refl s
theorem ya_cons {e : Expr} {es : List Expr} {t : TDY Sy} {u : TDYA} (ha : YC X F W e t) (hr : YA X F W es u) (hs : starEach (e :: es) X.env = (false, eval e X.env) :: starEach es X.env := by rfl) : YA X F W (e :: es) (cCons t u) :=
  PA_imp (pa_cons ha hr hs) fun σ H Q ⟨τ, ρ, q, x, r, s, w, f, g⟩ => by
    refine ⟨τ, ρ, _, x, r, s, w, fun τ1 d v H1 w1 r1 e1 s1 => ?_, g⟩
    refine ⟨τ1, ρ, _, x, r.step e1, s1, w1, fun τ2 ds vs H2 w2 r2 e2 s2 => ?_, fun C τ2 H2 w2 e2 s2 => g C τ2 H2 w2 (e1.trans e2) s2⟩
    exact f τ2 (d :: ds) (v :: vs) H2 w2 (.cons (r1.step e2) r2) (e1.trans e2) s2
/-- values that leave the state -/
theorem ya_lift {es : List Expr} {t : Sy → TDA} (h : ∀ τ, EA X (F.at τ) es (t τ)) : YA X F W es (fun τ ρ q _ => t τ ρ (q τ)) := ⟨fun pos pins s σ H Q I ⟨τ, ρ, q, x, r, s', w, f, g⟩ => (h τ).run pos pins s σ H Q I ⟨ρ, q τ, r, s', w, fun ds v H' a b c d' => f τ ds v H' a b (.ext c) d'⟩⟩
/-! ### (a, b), [a, b], {} -/
def cTup (t : TDYA) : TDY Sy := fun τ ρ q x => t τ ρ (fun τ' ds => ds.length ≤ sizeLine ∧ q τ' (.tup ds)) x
theorem c_tup {es : List Expr} {k : Nat} {t : TDYA} (h : YA X F W es t) : YC X F W (.Tuple es k pos) (cTup t) := PE_imp (pe_tup h) fun σ H Q ⟨τ, ρ, q, x, r, s, w, f, g⟩ => by
  refine ⟨τ, ρ, _, x, r, s, w, fun τ' ds vs H1 ⟨wl, w1⟩ r1 e1 s1 => ⟨by rw [r1.length]; exact wl, fun a n => ?_⟩, g⟩
  exact f τ' _ _ _ w1 (new_tup (p := F.at τ') r1 n s1) (e1.trans (.ext (Ext.new n))) (Pot.new (R := F.at τ') s1 n)
/-- a new list of the state -/
def cLst (t : TDYA) : TDY Sy := fun τ ρ q x => t τ ρ (fun τ' ds => ds.length ≤ sizeLine ∧ ∀ a, sget τ' a = none → q ((a, .lst ds) :: τ') (.ptr a)) x
theorem sget_none {τ : Sy} {H : Hp} {a : Addr} (s : (SF X.K R0 h0).S τ H) (n : H a = none) : sget τ a = none := by
  cases g : sget τ a with
  | none => rfl
  | some o =>
    obtain ⟨u, hu⟩ := (s.2 a o g).2.ex
    rw [n] at hu; cases hu
theorem c_lst {es : List Expr} {t : TDYA} (h : YA X (SF X.K R0 h0) W es t) : YC X (SF X.K R0 h0) W (.List es pos) (cLst t) := PE_imp (pe_lst2 h) fun σ H Q ⟨τ, ρ, q, x, r, s, w, f, g⟩ => by
  refine ⟨τ, ρ, _, x, r, s, w, fun τ' ds vs H1 ⟨wl, w1⟩ r1 e1 s1 => ⟨by rw [r1.length]; exact wl, fun a n hs => ?_⟩, g⟩
  have st : Step (SF X.K R0 h0) τ' H1 ((a, .lst ds) :: τ') (upd H1 a (.lst vs)) := new_step n
  exact f _ _ _ _ (w1 a (sget_none s1 n)) (.ptr a) (e1.trans st) (new_ok s1 n ⟨vs, upd_same, RepAll.step st r1⟩)
def cDic : TDY Sy := fun τ ρ q x => ∀ a, sget τ a = none → q ((a, .dic []) :: τ) (.ptr a)
theorem c_dic : YC X (SF X.K R0 h0) W (.Dict [] [] pos) cDic := PE_imp pe_dnewK fun σ H Q ⟨τ, ρ, q, x, r, s, w, f, g⟩ => fun a n => by
  have st : Step (SF X.K R0 h0) τ H ((a, .dic []) :: τ) (upd H a (.dK [])) := new_step n
  exact f _ _ _ _ (w a (sget_none s n)) (.ptr a) st (new_ok s n ⟨[], upd_same, .nil⟩)
/-! ### x.append(e), x.pop(0) -/
def cApp (to : Sy → TDE) (t : TDY Sy) : TDY Sy := fun τ ρ q x => to τ ρ fun od => ∃ l xs0, od = .ptr l ∧ sget τ l = some (.lst xs0) ∧ t τ ρ (fun τ1 d => ∃ xs, sget τ1 l = some (.lst xs) ∧ xs.length < sizeLine ∧ q ((l, .lst (xs ++ [d])) :: τ1) .non) x
theorem lst_ty {K : PySem.W.Frag} {R : Res} {τ : Sy} {H : Hp} {l : Addr} {xs : List D} (S : SymAt K τ R) (o : Pot R H) (g : sget τ l = some (.lst xs)) : tyV K "list" (V.ref l) H := by
  obtain ⟨vs, hh, _⟩ := S H o l _ g
  exact .inl ⟨rfl, vs, .of hh⟩
theorem c_append {o e : Expr} {apos : Pos} {to : Sy → TDE} {t : TDY Sy} (ho : ∀ τ, EE X ((SF X.K R0 h0).at τ) o (to τ)) (he : YC X (SF X.K R0 h0) W e t) (hs : starEach [e] X.env = (false, eval e X.env) :: starEach [] X.env := by rfl) (hbase : attributeBase o "append" X.env (eval o X.env) = eval o X.env := by rfl)
    (hfew : ((backTo pos (starEach [e] X.env)).all (fun x => !x.1) && (backToKw pos (keywordEach [] X.env)).all (fun x => x.1.isSome) && decide ([e].length + ([] : List Keyword).length + (if ([] : List Keyword).isEmpty then 0 else 1) < 30)) = true := by rfl)
    (hline : (apos.endLine == pos.line) = true := by rfl) (hpl : (backTo pos (starEach [] X.env)).any (·.1) = false := by rfl) : YC X (SF X.K R0 h0) W (.Call (.Attribute o "append" apos) [e] [] pos) (cApp to t) :=
  PE_imp (pe_bm PySem.F.plainAttrs_list PySem.F.slot_list_append PySem.F.type_list_append mt_append (y_all ho) (pa_cons he pa_nil hs) hbase hfew hline hs hpl) fun σ H Q ⟨τ, ρ, q, x, r, s, w, f, g⟩ => by
    refine ⟨τ, ρ, _, r, s, w, ?_⟩
    rintro od v H1 ⟨l, xs0, rfl, g0, w1⟩ r1 e1 s1
    cases r1
    have st1 : Step (SF X.K R0 h0) τ H τ H1 := .ext e1
    refine ⟨lst_ty symAt s1 g0, τ, ρ, _, x, r.step st1, s1, w1, fun τ1 d y H2 ⟨xs, g1, hl, w2⟩ r2 e2 s2 => ?_, fun C τ' H' hx e2 s2 => g C τ' H' hx (st1.trans e2) s2⟩
    obtain ⟨vs, hh, ra⟩ := symAt H2 s2 l _ g1
    have st : Step (SF X.K R0 h0) τ1 H2 ((l, .lst (xs ++ [d])) :: τ1) (upd H2 l (.lst (vs ++ [y]))) := set_step g1
    refine ⟨l, vs, y, rfl, rfl, hh, by rw [ra.length]; exact hl, f _ _ _ _ w2 .non ((st1.trans e2).trans st) (set_ok s2 g1 ⟨_, upd_same, (RepAll.step st ra).append (.cons (Rep.step st r2) .nil)⟩)⟩
/-- x.pop(0) -/
def cPop (to : Sy → TDE) : TDY Sy := fun τ ρ q x => to τ ρ fun od => ∃ l d xs, od = .ptr l ∧ sget τ l = some (.lst (d :: xs)) ∧ q ((l, .lst xs) :: τ) d
theorem c_pop {o : Expr} {apos p2 : Pos} {j : Nat} {to : Sy → TDE} (ho : ∀ τ, EE X ((SF X.K R0 h0).at τ) o (to τ)) (hbase : attributeBase o "pop" X.env (eval o X.env) = eval o X.env := by rfl)
    (hfew : ((backTo pos (starEach [.Constant (.int 0) j p2] X.env)).all (fun x => !x.1) && (backToKw pos (keywordEach [] X.env)).all (fun x => x.1.isSome) && decide ([(.Constant (.int 0) j p2 : Expr)].length + ([] : List Keyword).length + (if ([] : List Keyword).isEmpty then 0 else 1) < 30)) = true := by rfl)
    (hline : (apos.endLine == pos.line) = true := by rfl) (hs : starEach [.Constant (.int 0) j p2] X.env = (false, eval (.Constant (.int 0) j p2) X.env) :: starEach [] X.env := by rfl) (hpl : (backTo pos (starEach [] X.env)).any (·.1) = false := by rfl) : YC X (SF X.K R0 h0) W (.Call (.Attribute o "pop" apos) [.Constant (.int 0) j p2] [] pos) (cPop to) :=
  PE_imp (pe_bm PySem.F.plainAttrs_list PySem.F.slot_list_pop PySem.F.type_list_pop mt_popAt (y_all ho) (pa_cons (pe_int (i := 0)) pa_nil hs) hbase hfew hline hs hpl) fun σ H Q ⟨τ, ρ, q, x, r, s, w, f, g⟩ => by
    refine ⟨τ, ρ, _, r, s, w, ?_⟩
    rintro od v H1 ⟨l, d, xs, rfl, g0, w1⟩ r1 e1 s1
    cases r1
    have st1 : Step (SF X.K R0 h0) τ H τ H1 := .ext e1
    obtain ⟨vs, hh, ra⟩ := symAt H1 s1 l _ g0
    refine ⟨lst_ty symAt s1 g0, ?_⟩
    cases ra with
    | @cons y ys _ _ ry rt =>
      have st : Step (SF X.K R0 h0) τ H1 ((l, .lst xs) :: τ) (upd H1 l (.lst ys)) := set_step g0
      have hq : seqIndex? 0 (y :: ys).length = some 0 := by
        unfold seqIndex?
        simp
      refine ⟨l, y :: ys, 0, 0, y, rfl, rfl, hh, by decide, by decide, hq, rfl, ?_⟩
      show Q y (upd H1 l (.lst ys))
      exact f _ _ _ _ w1 (Rep.step st ry) (st1.trans st) (set_ok s1 g0 ⟨_, upd_same, RepAll.step st rt⟩)
/-! ### o.f = e, o.f += 1 -/
def yFld (f : Str) (ta : Sy → TDE) (tv : TDY Sy) (K : PySem.W.Frag) : TDSS Sy := fun e τ ρ => tv τ ρ (fun τ1 d => ta τ1 ρ fun od => ∃ a C dx fs, od = .ptr a ∧ sget τ1 a = some (.ins C dx fs) ∧ Cls K C ∧ NoAttr K C f ∧ fs.length < 1000 ∧ e.nx ((a, .ins C dx (putD f d fs)) :: τ1) ρ) (fun C τ' => e.xc C τ' ρ)
theorem y_fld {o value : Expr} {f : Str} {pos' : Pos} {ta : Sy → TDE} {tv : TDY Sy} (ho : ∀ τ, EE X ((SF X.K R0 h0).at τ) o (ta τ)) (hv : YC X (SF X.K R0 h0) W value tv) (hs : swapsWith value (some (.Attribute o f pos')) pos.line X.env = pure false := by rfl) : YS X (SF X.K R0 h0) W (.Assign [.Attribute o f pos'] value pos) (yFld f ta tv X.K) :=
  PS_imp (ps_fld (y_all ho) hv hs) fun E σ H ⟨τ, ρ, en, r, s, w, fi⟩ => by
    refine ⟨τ, ρ, _, _, r, s, w, ?_, fun C τ' H' hx e2 s2 => fi.xc C τ' ρ σ H' hx (r.step e2) e2 s2⟩
    rintro τ1 d y H1 w1 r1 e1 s1
    refine ⟨τ1, ρ, _, r.step e1, s1, w1, ?_⟩
    rintro od v H2 ⟨a, C, dx, fs, rfl, g, c, n, hl, w2⟩ r2 e2 s2
    cases r2
    have st2 : Step (SF X.K R0 h0) τ1 H1 τ1 H2 := .ext e2
    obtain ⟨gs, hh, ra⟩ := symAt H2 s2 a _ g
    have st : Step (SF X.K R0 h0) τ1 H2 ((a, .ins C dx (putD f d fs)) :: τ1) (upd H2 a (.ins C dx (putF f y gs))) := set_step g
    refine ⟨a, C, dx, gs, rfl, hh, c, n, by rw [ra.length]; exact hl, fi.nx _ ρ σ _ w2 ((r.step (e1.trans st2)).step st) ((e1.trans st2).trans st) (set_ok s2 g ⟨_, upd_same, PairR.of (fun _ _ rr => Rep.step st rr) (put_of ra (Rep.step st2 r1))⟩)⟩
def yFldAug (f : Str) (ta : Sy → TDE) (k : Int) (K : PySem.W.Frag) : TDSS Sy := fun e τ ρ => ta τ ρ fun od => ∃ a C dx fs i, od = .ptr a ∧ sget τ a = some (.ins C dx fs) ∧ Cls K C ∧ NoAttr K C f ∧ fs.lookup f = some (.int i) ∧ fs.length < 1000 ∧ e.nx ((a, .ins C dx (putD f (.int (i + k)) fs)) :: τ) ρ
theorem y_fldaug {o : Expr} {f : Str} {pos' p2 : Pos} {j : Nat} {k : Int} {ta : Sy → TDE} (ho : ∀ τ, EE X ((SF X.K R0 h0).at τ) o (ta τ)) : YS X (SF X.K R0 h0) W (.AugAssign (.Attribute o f pos') .Add (.Constant (.int k) j p2) pos) (yFldAug f ta k X.K) :=
  PS_imp (ps_fldaug (y_all ho) (pe_int (i := k)) in_add) fun E σ H ⟨τ, ρ, en, r, s, w, fi⟩ => by
    refine ⟨τ, ρ, _, r, s, w, ?_⟩
    rintro od v H1 ⟨a, C, dx, fs, i, rfl, g, c, n, l, hl, w1⟩ r1 e1 s1
    cases r1
    have st1 : Step (SF X.K R0 h0) τ H τ H1 := .ext e1
    obtain ⟨gs, hh, ra⟩ := symAt H1 s1 a _ g
    obtain ⟨u, hu, ru⟩ := lookup_of ra l
    cases ru
    have st : Step (SF X.K R0 h0) τ H1 ((a, .ins C dx (putD f (.int (i + k)) fs)) :: τ) (upd H1 a (.ins C dx (putF f (.int (i + k)) gs))) := set_step g
    refine ⟨a, C, dx, gs, _, rfl, hh, c, n, hu, i, k, rfl, rfl, dx, gs, hh, by rw [ra.length]; exact hl, fi.nx _ ρ σ _ w1 ((r.step st1).step st) (st1.trans st) (set_ok s1 g ⟨_, upd_same, PairR.of (fun _ _ rr => Rep.step st rr) (put_of ra (.int _))⟩)⟩
end
end Dl

set_option Elab.async false
set_option linter.all false
set_option maxRecDepth 100000
set_option maxHeartbeats 4000000
namespace Dl
open PySem PySem.Spec PyProof.Rows L2
/-! ## dicts and lists of the state -/
section
variable {X : Cx} {R0 : Res} {h0 : ∀ H, R0.Ss H} {W : WX} {pos : Pos} {R : Res} {τ : Sy}
/-- o[k] -/
def vDget (τ : Sy) (t tk : TDE) : TDE := fun ρ q => t ρ fun d => tk ρ fun kd => ∃ a kvs k v, d = .ptr a ∧ sget τ a = some (.dic kvs) ∧ keyD kd = some k ∧ valD kvs k = some v ∧ q v
theorem d_dget {o i : Expr} {t tk : TDE} (S : SymAt X.K τ R) (hu : X.A.units + 1 < cLine) (ho : EE X R o t) (hi : EE X R i tk) (hs : NoSl i := by intro _ _; rfl) : EE X R (.Subscript o i pos) (vDget τ t tk) := PE_imp (pe_dget hu ho hi hs) fun σ H Q ⟨ρ, q, r, o, w, fi⟩ => by
  refine ⟨ρ, _, r, o, w, fun d x H1 w1 r1 e1 o1 => ⟨ρ, _, r.mono e1, o1, w1, ?_⟩⟩
  rintro kd y H2 ⟨a, kvs, k, v, rfl, g, hk, hv, w2⟩ r2 e2 o2
  cases r1
  obtain ⟨ks, hh, ra⟩ := S H2 o2 a _ g
  obtain ⟨u, hu', ru⟩ := (val_of ra).1 v hv
  have ek := key_rep r2 hk
  subst ek
  exact ⟨a, u, rfl, by rw [← hu']; exact DGet.k hh, fi _ _ H2 w2 ru (e1.trans e2) o2⟩
/-- k in o, k not in o -/
def vDin (τ : Sy) (neg : Bool) (tk t : TDE) : TDE := fun ρ q => tk ρ fun kd => t ρ fun d => ∃ a kvs k, d = .ptr a ∧ sget τ a = some (.dic kvs) ∧ keyD kd = some k ∧ q (.bl (if neg then !(valD kvs k).isSome else (valD kvs k).isSome))
theorem din_ok {σ : L2.St} {H : Hp} {Q : VK} {neg : Bool} {tk t : TDE} (S : SymAt X.K τ R) : tD X.K R (vDin τ neg tk t) σ H Q → tD X.K R tk σ H fun y H1 => tD X.K R t σ H1 fun x H2 => ∃ a o, x = .ref a ∧ DGet H2 a y o ∧ Q (.bl (if neg then !o.isSome else o.isSome)) H2 := fun ⟨ρ, q, r, o, w, fi⟩ => by
  refine ⟨ρ, _, r, o, w, fun kd y H1 w1 r1 e1 o1 => ⟨ρ, _, r.mono e1, o1, w1, ?_⟩⟩
  rintro d x H2 ⟨a, kvs, k, rfl, g, hk, w2⟩ r2 e2 o2
  cases r2
  obtain ⟨ks, hh, ra⟩ := S H2 o2 a _ g
  have ek := key_rep r1 hk
  subst ek
  refine ⟨a, valV ks k, rfl, DGet.k hh, ?_⟩
  have e : (valV ks k).isSome = (valD kvs k).isSome := by
    cases hv : valD kvs k with
    | none => rw [(val_of ra).2 hv]; rfl
    | some v =>
      obtain ⟨u, hu', _⟩ := (val_of ra).1 v hv
      rw [hu']; rfl
  rw [e]
  exact fi _ _ H2 w2 (.bl _) (e1.trans e2) o2
theorem t_din {o i : Expr} {t tk : TDE} (S : SymAt X.K τ R) (hu : X.A.units + 1 < cLine) (hi : EE X R i tk) (ho : EE X R o t) (hm : behindInMarks .In o = false := by rfl) : ET X R (.Compare i [.In] [o] pos) (vT (vDin τ false tk t)) :=
  PT_imp (pt_cmp (pc_din hu hi ho) hm) fun σ H Q ⟨ρ, q, r, o, w, fi⟩ => din_ok (neg := false) (Q := fun x H1 => ∃ c, x = .bl c ∧ Q c H1) S ⟨ρ, _, r, o, w, fi.of⟩
theorem t_dnotin {o i : Expr} {t tk : TDE} (S : SymAt X.K τ R) (hu : X.A.units + 1 < cLine) (hi : EE X R i tk) (ho : EE X R o t) (hm : behindInMarks .NotIn o = false := by rfl) : ET X R (.Compare i [.NotIn] [o] pos) (vT (vDin τ true tk t)) :=
  PT_imp (pt_cmp (pc_dnotin hu hi ho) hm) fun σ H Q ⟨ρ, q, r, o, w, fi⟩ => din_ok (neg := true) (Q := fun x H1 => ∃ c, x = .bl c ∧ Q c H1) S ⟨ρ, _, r, o, w, fi.of⟩
/-- o[k] = e -/
def yDput (t tk : Sy → TDE) (tv : TDY Sy) : TDSS Sy := fun e τ ρ => tv τ ρ (fun τ1 d => t τ1 ρ fun od => tk τ1 ρ fun kd => ∃ a kvs k, od = .ptr a ∧ sget τ1 a = some (.dic kvs) ∧ keyD kd = some k ∧ kvs.length < sizeLine ∧ e.nx ((a, .dic (putKD kvs k d)) :: τ1) ρ) (fun C τ' => e.xc C τ' ρ)
theorem y_dput {o i value : Expr} {pos' : Pos} {t tk : Sy → TDE} {tv : TDY Sy} (hu : X.A.units + 1 < cLine) (ho : ∀ τ, EE X ((SF X.K R0 h0).at τ) o (t τ)) (hi : ∀ τ, EE X ((SF X.K R0 h0).at τ) i (tk τ)) (hv : YC X (SF X.K R0 h0) W value tv) (hs : swapsWith value (some (.Subscript o i pos')) pos.line X.env = pure false := by rfl) :
    YS X (SF X.K R0 h0) W (.Assign [.Subscript o i pos'] value pos) (yDput t tk tv) := PS_imp (ps_dput hu (y_all ho) (y_all hi) hv hs) fun E σ H ⟨τ, ρ, en, r, s, w, fi⟩ => by
  refine ⟨τ, ρ, _, _, r, s, w, ?_, fun C τ' H' hx e2 s2 => fi.xc C τ' ρ σ H' hx (r.step e2) e2 s2⟩
  rintro τ1 d y H1 w1 r1 e1 s1
  refine ⟨τ1, ρ, _, r.step e1, s1, w1, fun od x H2 w2 r2 e2 s2 => ?_⟩
  have st2 : Step (SF X.K R0 h0) τ1 H1 τ1 H2 := .ext e2
  refine ⟨τ1, ρ, _, (r.step e1).step st2, s2, w2, ?_⟩
  rintro kd z H3 ⟨a, kvs, k, rfl, g, hk, hl, w3⟩ r3 e3 s3
  cases r2
  have st3 : Step (SF X.K R0 h0) τ1 H2 τ1 H3 := .ext e3
  have ek := key_rep r3 hk
  subst ek
  obtain ⟨ks, hh, ra⟩ := symAt H3 s3 a _ g
  have st : Step (SF X.K R0 h0) τ1 H3 ((a, .dic (putKD kvs k d)) :: τ1) (upd H3 a (.dK (putK ks k y))) := set_step g
  refine ⟨a, _, rfl, DPut.k hh (by rw [ra.length]; exact hl), fi.nx _ ρ σ _ w3 ((((r.step e1).step st2).step st3).step st) (((e1.trans st2).trans st3).trans st) (set_ok s3 g ⟨_, upd_same, PairR.of (fun _ _ rr => Rep.step st rr) (putK_of ra (Rep.step st3 (Rep.step st2 r1)))⟩)⟩
/-! ### {'k': e, ..} -/
def trsY (K : PySem.W.Frag) (F : Fam Sy) (W : WX) (ks : List Str) (ts : List (TDY Sy)) : List (TE × TE) := (ks.zip ts).map fun kt => (tC (.str kt.1), tDY K F W kt.2)
def cVals : List (TDY Sy) → TDYA
  | [] => cNil
  | t :: ts => cCons t (cVals ts)
theorem pairsY_ok {K : PySem.W.Frag} {F : Fam Sy} : ∀ (ks : List Str) (ts : List (TDY Sy)) (σ : L2.St) (τ : Sy) (ρ : DE) (H : Hp) (q : Sy → List D → Prop) (x : Addr → Sy → Prop) (Q : List (V × V) → Hp → Prop), ks.length = ts.length → REnv K (F.av τ) H σ ρ → F.S τ H → cVals ts τ ρ q x →
    (∀ τ' ds vs H', q τ' ds → RepAll K (F.av τ') H' vs ds → ds.length = ks.length → Step F τ H τ' H' → F.S τ' H' → Q ((ks.map V.str).zip vs) H') → (∀ C τ' H', x C τ' → Step F τ H τ' H' → F.S τ' H' → W (.ref C) none σ H') → tPairs (trsY K F W ks ts) σ H Q
  | [], [], σ, τ, ρ, H, q, x, Q, _, r, s, w, f, g => f τ [] [] H w .nil rfl .refl s
  | [], _ :: _, _, _, _, _, _, _, _, hl, _, _, _, _, _ => by cases hl
  | _ :: _, [], _, _, _, _, _, _, _, hl, _, _, _, _, _ => by cases hl
  | k :: ks, t :: ts, σ, τ, ρ, H, q, x, Q, hl, r, s, w, f, g => by
    show tC (.str k) σ H fun y H1 => tDY K F W t σ H1 fun z H2 => tPairs (trsY K F W ks ts) σ H2 fun ps H3 => Q ((y, z) :: ps) H3
    refine ⟨τ, ρ, _, x, r, s, w, fun τ1 d v H1 w1 r1 e1 s1 => ?_, g⟩
    refine pairsY_ok ks ts σ τ1 ρ H1 _ x _ (by simpa using hl) (r.step e1) s1 w1 (fun τ2 ds vs H2 w2 r2 hl2 e2 s2 => ?_) (fun C τ2 H2 w2 e2 s2 => g C τ2 H2 w2 (e1.trans e2) s2)
    exact f τ2 (d :: ds) (v :: vs) H2 w2 (.cons (Rep.step e2 r1) r2) (by simp [hl2]) (e1.trans e2) s2
def cDisp (ks : List Str) (ts : List (TDY Sy)) : TDY Sy := fun τ ρ q x => ∀ a, sget τ a = none → cVals ts ((a, .dic []) :: τ) ρ (fun τ2 ds => sget τ2 a = some (.dic []) ∧ q ((a, .dic (mergeD [] ((ks.map Sum.inr).zip ds))) :: τ2) (.ptr a)) x
theorem zip_pair {K : PySem.W.Frag} {p : List Addr} {H : Hp} : ∀ {ks : List Str} {vs : List V} {ds : List D}, RepAll K p H vs ds → ds.length = ks.length → PairR K p H ((ks.map (Sum.inr : Str → Key)).zip vs) ((ks.map Sum.inr).zip ds)
  | [], _, _, .nil, _ => .nil
  | [], _, _, .cons _ _, h => by cases h
  | _ :: _, _, _, .nil, h => by cases h
  | k :: ks, _, _, .cons r t, h => .cons r (zip_pair t (by simpa using h))
theorem c_disp {keys : List (Option Expr)} {values : List Expr} {dpos : Pos} {ks : List Str} {ts : List (TDY Sy)} (hp : PPs X dpos keys values (trsY X.K (SF X.K R0 h0) W ks ts)) (hall : keys.all (·.isSome) = true) (hlk : keys.length = values.length) (hne : keys ≠ []) (h15 : keys.length ≤ 15) (hkt : ks.length = ts.length) (h15' : ks.length ≤ 15) :
    YC X (SF X.K R0 h0) W (.Dict keys values dpos) (cDisp ks ts) := PE_imp (pe_disp hp hall hlk hne h15) fun σ H Q ⟨τ, ρ, q, x, r, s, w, f, g⟩ => fun a n => by
  have st : Step (SF X.K R0 h0) τ H ((a, .dic []) :: τ) (upd H a (.dK [])) := new_step n
  have sS := new_ok (so := .dic []) (ho := .dK []) s n ⟨[], upd_same, .nil⟩
  refine pairsY_ok ks ts σ ((a, .dic []) :: τ) ρ _ _ x _ hkt (r.step st) sS (w a (sget_none s n)) (fun τ2 ds vs H2 w2 r2 hl2 e2 s2 => ?_) (fun C τ2 H2 hx e2 s2 => g C τ2 H2 hx (st.trans e2) s2)
  obtain ⟨g2, w3⟩ := w2
  obtain ⟨ks0, hh, ra⟩ := symAt H2 s2 a _ g2
  cases ra
  have hlv : vs.length = ks.length := by rw [r2.length]; exact hl2
  refine ⟨hh, (ks.map Sum.inr).zip vs, ?_, ?_, ?_⟩
  · rw [List.zip_map_left, List.zip_map_left, List.map_map]; rfl
  · rw [List.length_zip, List.length_map]; omega
  · have st2 : Step (SF X.K R0 h0) τ2 H2 ((a, .dic (mergeD [] ((ks.map Sum.inr).zip ds))) :: τ2) (upd H2 a (.dK (mergeK [] ((ks.map Sum.inr).zip vs)))) := set_step g2
    exact f _ _ _ _ w3 (.ptr a) ((st.trans e2).trans st2) (set_ok s2 g2 ⟨_, upd_same, PairR.of (fun _ _ rr => Rep.step st2 rr) (merge_of (zip_pair r2 hl2) .nil)⟩)
/-! ### x.update(e) -/
theorem mt_update : MtM X "dict.update" (fun x vs H Q => ∃ d o kvs more, x = .ref d ∧ vs = [.ref o] ∧ d ≠ o ∧ H d = some (.dK kvs) ∧ H o = some (.dK more) ∧ kvs.length + more.length ≤ sizeLine ∧ Q .non (upd H d (.dK (mergeK kvs more)))) := by
  intro pins s σ H x vs v us Q I rx rv h
  obtain ⟨d, o, kvs, more, rfl, rfl, hne, hd, ho, hz, q⟩ := h
  cases rx
  cases rv with
  | cons ro rt =>
    cases rt
    cases ro
    obtain ⟨z1, n1, vs1, rel1, dd1⟩ := dk_of I.hok hd
    obtain ⟨z2, n2, vs2, rel2, dd2⟩ := dk_of I.hok ho
    refine call_meetsIn PySem.F.slot_dict_update dd1.typeIs PySem.F.entry_dict_update (PySem.F.args_dict_update_2 _ _) (meets_dict_update (mixKind X.prog X.w) d o hne n2)
      ⟨vs1, vs2, dd1, dd2, (by rw [← rel1.length, ← rel2.length]; exact hz), fun h' hmm _ hs => ?_⟩
    have he : ∃ q, h'.get? d = some q := let ⟨q, _, _, hq, _⟩ := hmm; ⟨q, hq⟩
    have hl : (mergeK kvs more).length ≤ sizeLine := by have := length_mergeK more kvs; omega
    exact ⟨.non, _, d_write (t' := s.toks) I (by rw [hd]; exact True.intro) hs he (dk_new hl n1 (rel2.merge rel1) hmm), rfl, q⟩
def cUpd (to : Sy → TDE) (t : TDY Sy) : TDY Sy := fun τ ρ q x => to τ ρ fun od => ∃ a kvs0, od = .ptr a ∧ sget τ a = some (.dic kvs0) ∧ t τ ρ (fun τ1 d => ∃ b kvs more, d = .ptr b ∧ a ≠ b ∧ sget τ1 a = some (.dic kvs) ∧ sget τ1 b = some (.dic more) ∧ kvs.length + more.length ≤ sizeLine ∧ q ((a, .dic (mergeD kvs more)) :: τ1) .non) x
theorem dic_ty {K : PySem.W.Frag} {H : Hp} {l : Addr} {kvs : List (Key × D)} (S : SymAt K τ R) (o : Pot R H) (g : sget τ l = some (.dic kvs)) : tyV K "dict" (V.ref l) H := by
  obtain ⟨ks, hh, _⟩ := S H o l _ g
  exact .inr (.inr (.inl ⟨rfl, .inl ⟨_, hh⟩⟩))
theorem c_update {o e : Expr} {apos : Pos} {to : Sy → TDE} {t : TDY Sy} (ho : ∀ τ, EE X ((SF X.K R0 h0).at τ) o (to τ)) (he : YC X (SF X.K R0 h0) W e t) (hs : starEach [e] X.env = (false, eval e X.env) :: starEach [] X.env := by rfl) (hbase : attributeBase o "update" X.env (eval o X.env) = eval o X.env := by rfl)
    (hfew : ((backTo pos (starEach [e] X.env)).all (fun x => !x.1) && (backToKw pos (keywordEach [] X.env)).all (fun x => x.1.isSome) && decide ([e].length + ([] : List Keyword).length + (if ([] : List Keyword).isEmpty then 0 else 1) < 30)) = true := by rfl)
    (hline : (apos.endLine == pos.line) = true := by rfl) (hpl : (backTo pos (starEach [] X.env)).any (·.1) = false := by rfl) : YC X (SF X.K R0 h0) W (.Call (.Attribute o "update" apos) [e] [] pos) (cUpd to t) :=
  PE_imp (pe_bm PySem.F.plainAttrs_dict PySem.F.slot_dict_update PySem.F.type_dict_update mt_update (y_all ho) (pa_cons he pa_nil hs) hbase hfew hline hs hpl) fun σ H Q ⟨τ, ρ, q, x, r, s, w, f, g⟩ => by
    refine ⟨τ, ρ, _, r, s, w, ?_⟩
    rintro od v H1 ⟨l, xs0, rfl, g0, w1⟩ r1 e1 s1
    cases r1
    have st1 : Step (SF X.K R0 h0) τ H τ H1 := .ext e1
    refine ⟨dic_ty symAt s1 g0, τ, ρ, _, x, r.step st1, s1, w1, ?_, fun C τ' H' hx e2 s2 => g C τ' H' hx (st1.trans e2) s2⟩
    rintro τ1 d y H2 ⟨b, kvs, more, rfl, hne, ga, gb, hl, w2⟩ r2 e2 s2
    cases r2
    obtain ⟨ks, hh, ra⟩ := symAt H2 s2 l _ ga
    obtain ⟨ms, hm, rm⟩ := symAt H2 s2 b _ gb
    have st : Step (SF X.K R0 h0) τ1 H2 ((l, .dic (mergeD kvs more)) :: τ1) (upd H2 l (.dK (mergeK ks ms))) := set_step ga
    exact ⟨l, b, ks, ms, rfl, rfl, hne, hh, hm, by rw [ra.length, rm.length]; exact hl, f _ _ _ _ w2 .non ((st1.trans e2).trans st) (set_ok s2 ga ⟨_, upd_same, PairR.of (fun _ _ rr => Rep.step st rr) (merge_of rm ra)⟩)⟩
/-! ### lists, read -/
def lenP (τ : Sy) : DCall := fun ds q => ∃ a xs, ds = [.ptr a] ∧ sget τ a = some (.lst xs) ∧ q (.int xs.length)
theorem cd_lenP (S : SymAt X.K τ R) : CallD X.K R (fun xs H Q => ∃ x n, xs = [x] ∧ LenV X.K x H n ∧ Q (.int n) H) (lenP τ) := by
  rintro xs ds H q Q r o ⟨a, ys, rfl, g, w⟩ f
  obtain ⟨x, rfl, rx⟩ := r.one
  cases rx
  obtain ⟨vs, hh, ra⟩ := S H o a _ g
  exact ⟨_, ys.length, rfl, .inl ⟨vs, .of hh, ra.length.symm⟩, f _ _ H w (.int _) (Ext.refl _ _) o⟩
def tupP (τ : Sy) : DCall := fun ds q => ∃ a xs, ds = [.ptr a] ∧ sget τ a = some (.lst xs) ∧ q (.tup xs)
theorem cd_tupP (S : SymAt X.K τ R) : CallD X.K R (fun xs H Q => ∃ p ys, xs = [.ref p] ∧ ((SqL X.K H p ys ∧ ∀ l, H l = none → Q (.ref l) (upd H l (.tup ys))) ∨ (SqT X.K H p ys ∧ Q (.ref p) H))) (tupP τ) := by
  rintro xs ds H q Q r o ⟨a, ys, rfl, g, w⟩ f
  obtain ⟨x, rfl, rx⟩ := r.one
  cases rx
  obtain ⟨vs, hh, ra⟩ := S H o a _ g
  exact ⟨_, vs, rfl, .inl ⟨.of hh, fun l n => f _ _ _ w (new_tup ra n o) (Ext.new n) (o.new n)⟩⟩
/-- a list of the state against written flat things -/
def eqLP (τ : Sy) (neg : Bool) : DOp := fun dx dy q => ∃ a xs ys, dx = .ptr a ∧ sget τ a = some (.lst xs) ∧ lstOf dy ys ∧ xs.all flatD = true ∧ ys.all flatD = true ∧ SeqAt.shaped (.list (D.pys xs)) = true ∧ SeqAt.shaped (.list (D.pys ys)) = true ∧
  q (.bl (if neg then !PyData.eqv (.list (D.pys xs)) (.list (D.pys ys)) else PyData.eqv (.list (D.pys xs)) (.list (D.pys ys))))
theorem opd_eqLP (S : SymAt X.K τ R) : OpD X.K R (rEqD X.K) (eqLP τ false) := by
  rintro x y dx dy H q Q rx ry o ⟨a, xs, ys, rfl, g, hy, f1, f2, s1, s2, w⟩ f
  cases rx
  obtain ⟨vs, hh, ra⟩ := S H o a _ g
  obtain ⟨b, us, rfl, hb, rb⟩ := rep_lst ry hy
  exact ⟨_, _, .lst (.of hh) (rep_dps ra f1), .lst (.of hb) (rep_dps rb f2), s1, s2, f _ _ H w (.bl _) (Ext.refl _ _) o⟩
theorem opd_neLP (S : SymAt X.K τ R) : OpD X.K R (rNeD X.K) (eqLP τ true) := by
  rintro x y dx dy H q Q rx ry o ⟨a, xs, ys, rfl, g, hy, f1, f2, s1, s2, w⟩ f
  cases rx
  obtain ⟨vs, hh, ra⟩ := S H o a _ g
  obtain ⟨b, us, rfl, hb, rb⟩ := rep_lst ry hy
  exact ⟨_, _, .lst (.of hh) (rep_dps ra f1), .lst (.of hb) (rep_dps rb f2), s1, s2, f _ _ H w (.bl _) (Ext.refl _ _) o⟩
/-- x[lo:hi], a new list of the state -/
def cSlL (to : Sy → TDE) (tl th : Sy → TDO) : TDY Sy := fun τ ρ q x => to τ ρ fun od => tl τ ρ fun lo => th τ ρ fun hi => ∃ l xs, od = .ptr l ∧ sget τ l = some (.lst xs) ∧ ∀ a, sget τ a = none → q ((a, .lst (Dl.cutD xs lo hi)) :: τ) (.ptr a)
theorem c_slL {e : Expr} {lo hi : Option Expr} {to : Sy → TDE} {tl th : Sy → TDO} {p2 : Pos} (he : ∀ τ, EE X ((SF X.K R0 h0).at τ) e (to τ)) (hl : ∀ τ, PO X lo (tDO X.K ((SF X.K R0 h0).at τ) (tl τ))) (hu : ∀ τ, PO X hi (tDO X.K ((SF X.K R0 h0).at τ) (th τ))) : YC X (SF X.K R0 h0) W (.Subscript e (.Slice lo hi none p2) pos) (cSlL to tl th) := by
  have hl' : PO X lo (fun σ H Q => ∃ τ, tDO X.K ((SF X.K R0 h0).at τ) (tl τ) σ H Q) := ⟨fun pins s σ H Q I ⟨τ, w⟩ => (hl τ).run pins s σ H Q I w⟩
  have hu' : PO X hi (fun σ H Q => ∃ τ, tDO X.K ((SF X.K R0 h0).at τ) (th τ) σ H Q) := ⟨fun pins s σ H Q I ⟨τ, w⟩ => (hu τ).run pins s σ H Q I w⟩
  refine PE_imp (pe_slice sl_list (y_all he) hl' hu') fun σ H Q ⟨τ, ρ, q, x, r, s, w, f, g⟩ => ?_
  refine ⟨τ, ρ, _, r, s, w, fun od v H1 w1 r1 e1 s1 => ?_⟩
  have st1 : Step (SF X.K R0 h0) τ H τ H1 := .ext e1
  refine ⟨τ, ρ, _, r.step st1, s1, w1, fun l H2 w2 e2 s2 => ?_⟩
  have st2 : Step (SF X.K R0 h0) τ H1 τ H2 := .ext e2
  refine ⟨τ, ρ, _, (r.step st1).step st2, s2, w2, fun u H3 w3 e3 s3 => ?_⟩
  have st3 : Step (SF X.K R0 h0) τ H2 τ H3 := .ext e3
  obtain ⟨a, xs, rfl, ga, w4⟩ := w3
  cases r1
  obtain ⟨vs, hh, ra⟩ := symAt H3 s3 a _ ga
  refine ⟨a, vs, rfl, .of hh, fun A n => ?_⟩
  have st : Step (SF X.K R0 h0) τ H3 ((A, .lst (Dl.cutD xs l u)) :: τ) (upd H3 A (.lst (cutV vs l u))) := new_step n
  exact f _ _ _ _ (w4 A (sget_none s3 n)) (.ptr A) (((st1.trans st2).trans st3).trans st) (new_ok s3 n ⟨_, upd_same, RepAll.step st (ra.cut l u)⟩)
/-! ### for x in a list of the state; while -/
def yForP (i : Nat) (to : Sy → TDE) (tb : TDSS Sy) : TDSS Sy := fun e τ ρ => to τ ρ fun od => ∃ l xs, od = .ptr l ∧ sget τ l = some (.lst xs) ∧ ∃ Iv : Nat → Sy → DE → Prop, Iv 0 τ ρ ∧ (∀ j τ' ρ', Iv j τ' ρ' → sget τ' l = some (.lst xs)) ∧ (∀ j d τ' ρ', xs[j]? = some d → Iv j τ' ρ' → tb ⟨Iv (j + 1), e.rt, e.xc⟩ τ' (ρ'.set i (some d))) ∧ ∀ τ' ρ', Iv xs.length τ' ρ' → e.nx τ' ρ'
theorem y_forP {i : Nat} {x : Str} {px : Pos} {iter : Expr} {body : List Stmt} {to : Sy → TDE} {tb : TDSS Sy} (nd : X.N.Nodup) (hp : PassesOwn (model X.prog X.w) X.A X.env X.xe) (hc : X.calm = true) (hi : ∀ τ, EE X ((SF X.K R0 h0).at τ) iter (to τ)) (hb : YSs X (SF X.K R0 h0) W body tb)
    (hx : X.N[i]? = some x := by rfl) (hl : Loc X.env.scope x := by first | exact Or.inl rfl | exact Or.inr rfl) (hf : X.fn x = true ∨ X.env.scope.names.lookup x = some .local := by first | exact .inl rfl | exact .inr rfl)
    (hs : ∀ x, foldedSetIterable iter X.env x = pure x := by intro _; rfl) : YS X (SF X.K R0 h0) W (.For (.Name x px) iter body [] pos) (yForP i to tb) :=
  PS_imp (ps_for hp hc (pi_list (y_all hi)) (pg_name nd hx hl hf) hb hs) fun E σ H ⟨τ, ρ, en, r, s, w, f⟩ => by
    refine ⟨τ, ρ, _, r, s, w, ?_⟩
    rintro od v H1 ⟨l, xs, rfl, ga, Iv, i0, ist, istep, iend⟩ r1 e1 s1
    cases r1
    have st1 : Step (SF X.K R0 h0) τ H τ H1 := .ext e1
    obtain ⟨vs, hh, ra⟩ := symAt H1 s1 l _ ga
    refine ⟨l, rfl, ⟨vs, .of hh⟩, ?_⟩
    have wk : L2.Walk (Itl X.K l) xs.length (fun H' => ∃ τ', (SF X.K R0 h0).S τ' H' ∧ sget τ' l = some (.lst xs)) (fun i H x H' => H' = H ∧ ∀ vs, SqL X.K H l vs → vs[i]? = some x) :=
      ⟨fun i H' hi ⟨τ', s', g'⟩ => by
        obtain ⟨vs', hh', ra'⟩ := symAt H' s' l _ g'
        have hlt : i < vs'.length := by rw [ra'.length]; exact hi
        exact ⟨vs', vs'[i], .of hh', List.getElem?_eq_getElem hlt⟩, fun H' ⟨τ', s', g'⟩ => by
        obtain ⟨vs', hh', ra'⟩ := symAt H' s' l _ g'
        exact ⟨vs', .of hh', by rw [ra'.length]; exact Nat.le_refl _⟩, fun i H' x H'' hi _ y => y⟩
    refine for_it wk (fun j σ' H' => j ≤ xs.length ∧ ∃ τ' ρ', Step (SF X.K R0 h0) τ H1 τ' H' ∧ (SF X.K R0 h0).S τ' H' ∧ REnv X.K ((SF X.K R0 h0).av τ') H' σ' ρ' ∧ Iv j τ' ρ') ⟨Nat.zero_le _, τ, ρ, .refl, s1, r.step st1, i0⟩ (fun j σ' H' _ ⟨_, τ', ρ', _, s', _, iv⟩ => ⟨τ', s', ist j τ' ρ' iv⟩) ?_ ?_
    · rintro j x σ' H' H'' hj ⟨_, τ', ρ', e2, s2, r2, iv⟩ ⟨rfl, hx⟩
      obtain ⟨vs', hh', ra'⟩ := symAt H'' s2 l _ (ist j τ' ρ' iv)
      obtain ⟨d, hd, rd⟩ := ra'.get' (hx vs' (.of hh'))
      refine ⟨τ', ρ'.set i (some d), _, REnv.set r2 rd i, s2, istep j d τ' ρ' hd iv, ⟨fun τ3 ρ3 σ3 H3 w3 r3 e3 s3 => ?_, fun τ3 d3 v3 H3 w3 r3 e3 s3 => f.rt τ3 d3 v3 H3 w3 r3 ((st1.trans e2).trans e3) s3, fun C τ3 ρ3 σ3 H3 w3 r3 e3 s3 => f.xc C τ3 ρ3 σ3 H3 w3 r3 ((st1.trans e2).trans e3) s3⟩⟩
      exact ⟨hj, τ3, ρ3, e2.trans e3, s3, r3, w3⟩
    · rintro σ' H' ⟨_, τ', ρ', e2, s2, r2, iv⟩
      exact f.nx τ' ρ' σ' H' (iend τ' ρ' iv) r2 (st1.trans e2) s2
def yWhile (c : Sy → TDT) (tb : TDSS Sy) : TDSS Sy := fun e τ ρ => ∃ (Iv : Sy → DE → Prop) (μ : Sy → DE → Nat), Iv τ ρ ∧ ∀ τ' ρ', Iv τ' ρ' → c τ' ρ' fun b => if b = true then tb ⟨fun τ2 ρ2 => Iv τ2 ρ2 ∧ μ τ2 ρ2 < μ τ' ρ', e.rt, e.xc⟩ τ' ρ' else e.nx τ' ρ'
theorem y_while {c : Expr} {body : List Stmt} {tc : Sy → TDT} {tb : TDSS Sy} (hp : PassesOwn (model X.prog X.w) X.A X.env X.xe) (hc : ∀ τ, ET X ((SF X.K R0 h0).at τ) c (tc τ)) (hb : YSs X (SF X.K R0 h0) W body tb) : YS X (SF X.K R0 h0) W (.While c body [] pos) (yWhile tc tb) :=
  PS_imp (ps_while hp (yt_all hc) hb) fun E σ H ⟨τ, ρ, en, r, s, ⟨Iv, μ, i0, turn⟩, f⟩ => by
    refine ⟨fun m σ' H' => ∃ τ' ρ', m = μ τ' ρ' ∧ Step (SF X.K R0 h0) τ H τ' H' ∧ (SF X.K R0 h0).S τ' H' ∧ REnv X.K ((SF X.K R0 h0).av τ') H' σ' ρ' ∧ Iv τ' ρ', ⟨_, τ, ρ, rfl, .refl, s, r, i0⟩, ?_⟩
    rintro m σ' H' ⟨τ', ρ', rfl, e2, s2, r2, iv⟩
    refine ⟨τ', ρ', _, r2, s2, turn τ' ρ' iv, fun b H1 w1 e3 s3 => ?_⟩
    have st3 : Step (SF X.K R0 h0) τ' H' τ' H1 := .ext e3
    cases b with
    | true =>
      rw [if_pos rfl] at w1
      refine iteT ⟨fun σ4 H4 => ∃ τ4 ρ4, Step (SF X.K R0 h0) τ H τ4 H4 ∧ (SF X.K R0 h0).S τ4 H4 ∧ REnv X.K ((SF X.K R0 h0).av τ4) H4 σ4 ρ4 ∧ Iv τ4 ρ4 ∧ μ τ4 ρ4 < μ τ' ρ', ?_, ?_⟩
      · rintro σ4 H4 ⟨τ4, ρ4, e4, s4, r4, iv4, lt⟩
        exact ⟨_, lt, τ4, ρ4, rfl, e4, s4, r4, iv4⟩
      · refine ⟨τ', ρ', _, r2.step st3, s3, w1, ⟨fun τ4 ρ4 σ4 H4 w4 r4 e4 s4 => ?_, fun τ4 d4 v4 H4 w4 r4 e4 s4 => f.rt τ4 d4 v4 H4 w4 r4 ((e2.trans st3).trans e4) s4, fun C τ4 ρ4 σ4 H4 w4 r4 e4 s4 => f.xc C τ4 ρ4 σ4 H4 w4 r4 ((e2.trans st3).trans e4) s4⟩⟩
        exact ⟨τ4, ρ4, (e2.trans st3).trans e4, s4, r4, w4.1, w4.2⟩
    | false =>
      rw [if_neg Bool.false_ne_true] at w1
      exact iteF (f.nx τ' ρ' σ' H1 w1 (r2.step st3) (e2.trans st3) s3)
/-! ### calls: f(..), o.m(..), C(..) -/
def vCallYA {T : Type} (Fd : DCallY Sy) (t : TDYA) : TDY Sy := fun τ ρ q x => t τ ρ (fun τ1 ds => Fd ds τ1 q x) x
/-- what a call over the state comes to -/
theorem spY_ok {F : Fam Sy} {Fd : DCallY Sy} {τ τ1 : Sy} {H H1 : Hp} {Q : VK} {q : Sy → D → Prop} {x : Addr → Sy → Prop} {ds : List D} {vs : List V} {E : XK} (st : Step F τ H τ1 H1) (f : ∀ τ' d v H', q τ' d → Rep X.K (F.av τ') H' v d → Step F τ H τ' H' → F.S τ' H' → Q v H') (g : ∀ C τ' H', x C τ' → Step F τ H τ' H' → F.S τ' H' → E (.ref C) none H')
    (r1 : RepAll X.K (F.av τ1) H1 vs ds) (s1 : F.S τ1 H1) (w : Fd ds τ1 q x) : spY X.K F Fd vs H1 Q E :=
  ⟨ds, τ1, q, x, r1, s1, w, fun τ' d v H2 w2 r2 e2 s2 => f τ' d v H2 w2 r2 (st.trans e2) s2, fun C τ' H2 w2 e2 s2 => g C τ' H2 w2 (st.trans e2) s2⟩
theorem c_callA {F : Fam Sy} {k : Nat} {x : Str} {p : Pos} {e : Expr} {es : List Expr} {t : TDYA} {Fd : DCallY Sy} {ps : List Str} (G : DefX X.prog X.w X.K X.mg X.base x ps k (spY X.K F Fd)) (tk : Takes X W) (hr : Room k X.A) (hgd : X.A.guards = some []) (ha : YA X F W (e :: es) t) (hg : Gl X x := by rfl)
    (hdb : (x == ("__debug__" : Str)) = false := by decide) (he : starEach (e :: es) X.env = (false, eval e X.env) :: starEach es X.env := by rfl) (hpl : (backTo pos (starEach es X.env)).any (·.1) = false := by rfl) :
    YC X F W (.Call (.Name x p) (e :: es) [] pos) (vCallYA (T := Sy) Fd t) := by
  obtain ⟨f, fd, G, hm, hk, hb, _⟩ := G.ex
  refine PE_imp (pe_callX (E := WE W) G hr hgd hg hm hk hb (fun σ => passAt tk σ) ha hdb he hpl) fun σ H Q ⟨τ, ρ, q, xx, r, s, w, f1, g1⟩ => ?_
  exact ⟨τ, ρ, _, xx, r, s, w, fun τ1 ds vs H1 w1 r1 e1 s1 => spY_ok (E := WE W σ) e1 f1 g1 r1 s1 w1, g1⟩
/-- a method of the class at C, by its promise -/
structure MethX (P : Program) (w : World) (K : PySem.W.Frag) (mg : Str → Option Value) (base : Heap) (C : Addr) (m : Str) (ps : List Str) (k : Nat) (sp : Sp) : Prop where
  ex : ∃ (f : Addr) (fd : FuncData), FnX P w K mg base k f fd ps sp ∧ Meth K C m f ∧ Binds K fd ps []
def cMeth (C : Addr) (m : Str) (Fd : DCallY Sy) (to : Sy → TDE) (t : TDYA) : TDY Sy := fun τ ρ q x => to τ ρ fun od => ∃ a dx fs, od = .ptr a ∧ sget τ a = some (.ins C dx fs) ∧ fs.lookup m = none ∧ t τ ρ (fun τ1 ds => Fd (.ptr a :: ds) τ1 q x) x
theorem c_meth {C : Addr} {k : Nat} {m : Str} {o e : Expr} {es : List Expr} {apos : Pos} {pl : Sem Bool} {to : Sy → TDE} {t : TDYA} {Fd : DCallY Sy} {ps : List Str} (ho : ∀ τ, EE X ((SF X.K R0 h0).at τ) o (to τ)) (c : Cls X.K C) (G : MethX X.prog X.w X.K X.mg X.base C m ps k (spY X.K (SF X.K R0 h0) Fd)) (tk : Takes X W) (hr : Room k X.A) (hgd : X.A.guards = some []) (ha : YA X (SF X.K R0 h0) W (e :: es) t)
    (hst : starEach (e :: es) X.env = (false, eval e X.env) :: starEach es X.env := by rfl) (hpl : (backTo pos (starEach es X.env)).any (·.1) = false := by rfl)
    (ht : eval (.Call (.Attribute o m apos) (e :: es) [] pos) X.env = (do
      let ov ← eval o X.env
      standAt apos.atName
      let (f, first) ← holding [ov] (getMethod ov m pl)
      callWith pos f first (backTo pos (starEach (e :: es) X.env)) (backToKw pos (keywordEach [] X.env))) := by rfl) :
    YC X (SF X.K R0 h0) W (.Call (.Attribute o m apos) (e :: es) [] pos) (cMeth C m Fd to t) := by
  obtain ⟨f, fd, G, hm, hb⟩ := G.ex
  refine ⟨fun pins s σ H Q I ⟨τ, ρ, q, x, r, sS, w, f1, g1⟩ => ?_⟩
  refine PySem.W.methodCall_KW (pl := pl) (thn ((y_all ho).run pins s σ H (fun v H1 => ∃ a dx gs, v = .ref a ∧ H1 a = some (.ins C dx gs) ∧ gs.lookup m = none ∧ tDYA X.K (SF X.K R0 h0) W t σ H1 fun vs H2 => spY X.K (SF X.K R0 h0) Fd (.ref a :: vs) H2 Q (WE W σ)) I ⟨τ, ρ, _, r, sS, w, ?_⟩) fun u s1 ⟨v, H1, I1, rx, a, dx, gs, ev, ea, l, q1⟩ => ?_) ht
  · rintro od v H1 ⟨a, dx, fs, rfl, g, l, w1⟩ r1 e1 s1
    cases r1
    have st1 : Step (SF X.K R0 h0) τ H τ H1 := .ext e1
    obtain ⟨gs, hh, ra⟩ := symAt H1 s1 a _ g
    refine ⟨a, dx, gs, rfl, hh, lookup_no ra l, τ, ρ, _, x, r.step st1, s1, w1, fun τ1 ds vs H2 w2 r2 e2 s2 => ?_, fun C τ' H' hx e2 s2 => g1 C τ' H' hx (st1.trans e2) s2⟩
    exact spY_ok (E := WE W σ) (st1.trans e2) f1 g1 (.cons (.ptr a) r2) s2 w2
  · subst ev
    obtain rfl : u = Value.ref a := rx
    refine getmeth_ok I1 ea c hm l ?_
    refine PySem.W.callWith_K (first := [.ref a]) (h₀ := X.base) I.ok.mod.kin hm.kp (thn (ha.run pos pins s1 σ H1 _ I1 q1) fun us s2 ⟨vs, H2, I2, rr, q2⟩ => ⟨I2.kIn, ?_⟩) hst hpl
    exact run_fnX (E := WE W) (args := ⟨.ref a :: us, []⟩) G hr hgd (fun hl => by
      have b := hb s2 (.ref a :: us) I2.kIn (by rw [List.append_nil]; exact hl)
      rw [List.append_nil] at b
      exact b) (passAt tk σ) I2 (.cons (show RelV (V.ref a) (Value.ref a) from rfl) rr) q2
def cMeth0 (C : Addr) (m : Str) (Fd : DCallY Sy) (to : Sy → TDE) : TDY Sy := fun τ ρ q x => to τ ρ fun od => ∃ a dx fs, od = .ptr a ∧ sget τ a = some (.ins C dx fs) ∧ fs.lookup m = none ∧ Fd [.ptr a] τ q x
theorem c_meth0 {C : Addr} {k : Nat} {m : Str} {o : Expr} {apos : Pos} {pl : Sem Bool} {to : Sy → TDE} {Fd : DCallY Sy} {ps : List Str} (ho : ∀ τ, EE X ((SF X.K R0 h0).at τ) o (to τ)) (c : Cls X.K C) (G : MethX X.prog X.w X.K X.mg X.base C m ps k (spY X.K (SF X.K R0 h0) Fd)) (tk : Takes X W) (hr : Room k X.A) (hgd : X.A.guards = some [])
    (ht : eval (.Call (.Attribute o m apos) [] [] pos) X.env = (do
      let ov ← eval o X.env
      standAt apos.atName
      let (f, first) ← holding [ov] (getMethod ov m pl)
      callWith pos f first (backTo pos (starEach [] X.env)) (backToKw pos (keywordEach [] X.env))) := by rfl) :
    YC X (SF X.K R0 h0) W (.Call (.Attribute o m apos) [] [] pos) (cMeth0 C m Fd to) := by
  obtain ⟨f, fd, G, hm, hb⟩ := G.ex
  refine ⟨fun pins s σ H Q I ⟨τ, ρ, q, x, r, sS, w, f1, g1⟩ => ?_⟩
  refine PySem.W.methodCall_KW (pl := pl) (thn ((y_all ho).run pins s σ H (fun v H1 => ∃ a dx gs, v = .ref a ∧ H1 a = some (.ins C dx gs) ∧ gs.lookup m = none ∧ spY X.K (SF X.K R0 h0) Fd [.ref a] H1 Q (WE W σ)) I ⟨τ, ρ, _, r, sS, w, ?_⟩) fun u s1 ⟨v, H1, I1, rx, a, dx, gs, ev, ea, l, q1⟩ => ?_) ht
  · rintro od v H1 ⟨a, dx, fs, rfl, g, l, w1⟩ r1 e1 s1
    cases r1
    have st1 : Step (SF X.K R0 h0) τ H τ H1 := .ext e1
    obtain ⟨gs, hh, ra⟩ := symAt H1 s1 a _ g
    exact ⟨a, dx, gs, rfl, hh, lookup_no ra l, spY_ok (E := WE W σ) st1 f1 g1 (.cons (.ptr a) .nil) s1 w1⟩
  · subst ev
    obtain rfl : u = Value.ref a := rx
    refine getmeth_ok I1 ea c hm l ?_
    exact PySem.W.callWith_K0 (first := [.ref a]) I1.kIn hm.kp (run_fnX (E := WE W) (args := ⟨[.ref a], []⟩) G hr hgd (fun hl => by
      have b := hb s1 [.ref a] I1.kIn (by rw [List.append_nil]; exact hl)
      rw [List.append_nil] at b
      exact b) (passAt tk σ) I1 (.cons (show RelV (V.ref a) (Value.ref a) from rfl) .nil) q1)
/-- C(): a new instance, then its __init__ -/
structure MakeX (P : Program) (w : World) (K : PySem.W.Frag) (mg : Str → Option Value) (base : Heap) (C : Addr) (x : Str) (ps : List Str) (k : Nat) (sp : Sp) : Prop where
  ex : ∃ (f : Addr) (fd : FuncData), FnX P w K mg base k f fd ps sp ∧ Mk K C f ∧ mg x = some (.ref C) ∧ Binds K fd ps []
def cMake0 (C : Addr) (Fd : DCallY Sy) : TDY Sy := fun τ ρ q x => ∀ a dx, sget τ a = none → sget τ dx = none → dx ≠ a → Fd [.ptr a] ((a, .ins C dx []) :: τ) (fun τ' d => d = .non ∧ q τ' (.ptr a)) x
theorem c_make0 {C : Addr} {k : Nat} {x : Str} {p : Pos} {Fd : DCallY Sy} {ps : List Str} (G : MakeX X.prog X.w X.K X.mg X.base C x ps k (spY X.K (SF X.K R0 h0) Fd)) (tk : Takes X W) (hr : Room (k + 1) X.A) (hgd : X.A.guards = some []) (hg : Gl X x := by rfl) (hdb : (x == ("__debug__" : Str)) = false := by decide) :
    YC X (SF X.K R0 h0) W (.Call (.Name x p) [] [] pos) (cMake0 C Fd) := by
  obtain ⟨f, fd, G, M, hm, hb⟩ := G.ex
  refine ⟨fun pins s σ H Q I ⟨τ, ρ, q, xx, r, sS, w, f1, g1⟩ => ?_⟩
  refine wpAny_Call_Name_kw (ld_glob I hg hm ?_ hdb)
  refine PySem.W.callWith_K0 I.kIn M.kp ?_
  have n1 : H (s.heap.objs.size + 1) = none := I.hok.fresh (Nat.le_succ _)
  have n0 : H s.heap.objs.size = none := I.hok.fresh (Nat.le_refl _)
  have ne : s.heap.objs.size ≠ s.heap.objs.size + 1 := Nat.ne_of_lt (Nat.lt_succ_self _)
  have I2 := Inv.made (C := C) I
  have st1 : Step (SF X.K R0 h0) τ H τ (upd H s.heap.objs.size (.own (s.heap.objs.size + 1))) := .ext (Ext.new n0)
  have s1 : (SF X.K R0 h0).S τ (upd H s.heap.objs.size (.own (s.heap.objs.size + 1))) := Pot.new (R := (SF X.K R0 h0).at τ) sS n0
  have n1' : (upd H s.heap.objs.size (.own (s.heap.objs.size + 1))) (s.heap.objs.size + 1) = none := by rw [upd_ne (Ne.symm ne)]; exact n1
  have st2 : Step (SF X.K R0 h0) τ (upd H s.heap.objs.size (.own (s.heap.objs.size + 1))) ((s.heap.objs.size + 1, .ins C s.heap.objs.size []) :: τ) (upd (upd H s.heap.objs.size (.own (s.heap.objs.size + 1))) (s.heap.objs.size + 1) (.ins C s.heap.objs.size [])) := new_step n1'
  have s2 := new_ok (so := .ins C s.heap.objs.size []) (ho := .ins C s.heap.objs.size []) s1 n1' ⟨[], upd_same, .nil⟩
  have hq : spY X.K (SF X.K R0 h0) Fd [.ref (s.heap.objs.size + 1)] (upd (upd H s.heap.objs.size (.own (s.heap.objs.size + 1))) (s.heap.objs.size + 1) (.ins C s.heap.objs.size [])) (fun v H2 => v = .non ∧ Q (.ref (s.heap.objs.size + 1)) H2) (WE W σ) := by
    refine ⟨_, _, _, xx, .cons (.ptr (s.heap.objs.size + 1)) .nil, s2, w _ _ (sget_none sS n1) (sget_none sS n0) ne, ?_, fun C' τ' H' hx e2 s3 => g1 C' τ' H' hx ((st1.trans st2).trans e2) s3⟩
    rintro τ' d v H' ⟨rfl, w2⟩ rr e2 s3
    cases rr
    exact ⟨rfl, f1 τ' _ _ H' w2 (.ptr _) ((st1.trans st2).trans e2) s3⟩
  have hl : ([Value.ref (s.heap.objs.size + 1)] : List Value).length = ps.length := G.len _ _ _ _ hq
  have b := hb _ [.ref (s.heap.objs.size + 1)] I2.kIn (by rw [List.append_nil]; exact hl)
  rw [List.append_nil] at b
  refine wpAny_call (make_map (f := f) I.kIn M.makes M.init (beq_iff_eq.mp M.fn) (codeAny_mono (G.run _ X.stack _ _ ⟨[Value.ref (s.heap.objs.size + 1)], []⟩ [.ref (s.heap.objs.size + 1)] [.ref (s.heap.objs.size + 1)] _ (WE W σ) (hr.make C [] []) hgd
    (I2.env0.make C [] []) b (.cons (show RelV (V.ref _) (Value.ref _) from rfl) .nil) hq) fun r s' hq' => ?_))
  cases r with
  | error e => exact passAt tk σ pins _ _ e s' I2 hq'
  | ok fl =>
    cases fl with
    | ret u =>
      obtain ⟨v, H', I3, rv, ev, q3⟩ := I2.after hq'
      subst ev
      exact ⟨rv, ⟨V.ref (s.heap.objs.size + 1), H', I3, rfl, q3⟩⟩
    | next => exact False.elim hq'
    | brk => exact False.elim hq'
    | cont => exact False.elim hq'
end
end Dl

set_option Elab.async false
set_option linter.all false
set_option maxRecDepth 100000
set_option maxHeartbeats 4000000
namespace Dl
open PySem PySem.Spec PyProof.Rows L2
/-! ## more over a state: tests, built-ins, parallel stores, try, the class of a thing -/
section
variable {prog : Program} {w : World} {A : Around} {E : Value → Shared → Prop} {s : Shared}
theorem call_eq_sameR {C : Addr} {Q : Value → Shared → Prop} (hT : s.TypeIs (.ref C) "type") (h : Q (.bool true) s) : wpAny (model prog w) A (call (.builtin "object.__eq__") [.ref C, .ref C]) Q E s := by
  refine wpAny_call_entry slot_type_eqN hT F.entry_object_eq ?_ (F.args_object_eq_2 _ _)
  unfold Builtin.«object.__eq__»
  repeat (first | with_reducible refine wpAny_isSame_ref_self ?_ | wp_step)
  exact ⟨_, rfl, h⟩
theorem call_ne_sameR {C : Addr} {Q : Value → Shared → Prop} {nm : Str} (hu : A.units + 1 < cLine) (hT : s.TypeIs (.ref C) "type") (sl : Slot "type" nm "object.__ne__") (h : Q (.bool false) s) : wpAny (model prog w) A (call (.builtin "object.__ne__") [.ref C, .ref C]) Q E s := by
  refine wpAny_call_entry sl hT PySem.F.cmpEntry_ne ?_ (PySem.F.cmpArgs_ne _ _)
  unfold Builtin.«object.__ne__»
  repeat (first
    | with_reducible refine wpAny_cRoomFor (A := A.in1) hu ?_
    | (refine wpAny_bind (m := callSpecialIfBound? (.ref C) (Str.ofString "__eq__") [.ref C]) (wpAny_callSpecialIfBound?_slot hT slot_type_eqN
        (call_eq_sameR hT ?_)))
    | (refine wpAny_bind (m := truthy (.bool _)) (wpAny_truthy_bool ?_))
    | wp_step)
  exact ⟨_, rfl, h⟩
theorem ne_cls_same {C : Addr} {Q : Value → Shared → Prop} (hu : A.units + 1 < cLine) (hT : s.TypeIs (.ref C) "type") (h : Q (.bool false) s) : wpAny (model prog w) A (compareOp .NotEq (.ref C) (.ref C)) Q E s := by
  show wpAny _ A (richCompare .NotEq _ _) Q E s
  exact wpAny_richCompare_same_room (T := "type") hT hT slot_type_ne (call_ne_sameR hu hT slot_type_ne ⟨(by intro e; cases e), h⟩) (by omega)
end
/-- a class of the program, as K has it -/
def IsCls (K : PySem.W.Frag) (C : Addr) : Prop := ∃ o, K.lookup C = some o ∧ o.cls = .type "type"
section
variable {X : Cx} {R0 : Res} {h0 : ∀ H, R0.Ss H} {W : WX} {pos : Pos} {R : Res} {τ : Sy} {F : Fam Sy}
theorem op_neCls (hu : X.A.units + 1 < cLine) : OpR X (compareOp .NotEq) (fun x y H Q => ∃ C, x = .ref C ∧ y = .ref C ∧ IsCls X.K C ∧ Q (.bl false) H) := by
  intro pins s σ H x y v u Q I rx ry h
  obtain ⟨C, rfl, rfl, ⟨o, ho, hc⟩, q⟩ := h
  cases rx; cases ry
  exact ne_cls_same hu ⟨o, I.kIn _ _ ho, hc⟩ ⟨.bl false, H, I, rfl, q⟩
def neCls (K : PySem.W.Frag) : DOp := fun dx dy q => ∃ C, dx = .ptr C ∧ dy = .ptr C ∧ IsCls K C ∧ q (.bl false)
theorem opd_neCls {K : PySem.W.Frag} : OpD K R (fun x y H Q => ∃ C, x = .ref C ∧ y = .ref C ∧ IsCls K C ∧ Q (.bl false) H) (neCls K) := by
  rintro x y dx dy H q Q rx ry o ⟨C, rfl, rfl, hC, w⟩ f
  cases rx; cases ry
  exact ⟨C, rfl, rfl, hC, f _ _ H w (.bl _) (Ext.refl _ _) o⟩
/-- type(o) of an instance -/
def typeP (τ : Sy) : DCall := fun ds q => ∃ a C dx fs, ds = [.ptr a] ∧ sget τ a = some (.ins C dx fs) ∧ q (.ptr C)
theorem cd_typeP (S : SymAt X.K τ R) : CallD X.K R (fun xs H Q => ∃ a C dx fs, xs = [V.ref a] ∧ H a = some (.ins C dx fs) ∧ Q (.ref C) H) (typeP τ) := by
  rintro xs ds H q Q r o ⟨a, C, dx, fs, rfl, g, w⟩ f
  obtain ⟨x, rfl, rx⟩ := r.one
  cases rx
  obtain ⟨gs, hh, ra⟩ := S H o a _ g
  exact ⟨a, C, dx, gs, rfl, hh, f _ _ H w (.ptr C) (Ext.refl _ _) o⟩
/-! ### built-ins over values that change the state -/
def cCallB (op : Sy → DCall) (t : TDYA) : TDY Sy := fun τ ρ q x => t τ ρ (fun τ1 ds => op τ1 ds (q τ1)) x
theorem c_callB {x : Str} {p0 : Pos} {e : Expr} {es : List Expr} {t : TDYA} {id : String} {r : List V → Hp → VK → Prop} {op : Sy → DCall} (h : ∀ τ, CallD X.K (F.at τ) r (op τ)) (hc : CallR X (.builtin id) r) (hm : X.mg x = none) (hv : bootBuiltins x = some (.builtin id)) (ha : YA X F W (e :: es) t)
    (hg : Gl X x := by rfl) (hn : x ≠ "__name__" := by decide) (hdb : (x == ("__debug__" : Str)) = false := by decide)
    (he : starEach (e :: es) X.env = (false, eval e X.env) :: starEach es X.env := by rfl) (hpl : (backTo pos (starEach es X.env)).any (·.1) = false := by rfl) : YC X F W (.Call (.Name x p0) (e :: es) [] pos) (cCallB op t) :=
  PE_imp (pe_callB hc hg hm hv ha hn hdb he hpl) fun σ H Q ⟨τ, ρ, q, x, r, s, w, f, g⟩ => ⟨τ, ρ, _, x, r, s, w, fun τ1 ds vs H1 w1 r1 e1 s1 => h τ1 vs ds H1 (q τ1) Q r1 s1 w1 (fun d v H2 w2 r2 e2 s2 => f τ1 d v H2 w2 r2 (e1.trans (.ext e2)) s2), g⟩
theorem c_callTy {x : Str} {p0 : Pos} {e : Expr} {es : List Expr} {t : TDYA} {T : String} {r : List V → Hp → VK → Prop} {op : Sy → DCall} (h : ∀ τ, CallD X.K (F.at τ) r (op τ)) (hc : CallR X (.type T) r) (hm : X.mg x = none) (hv : bootBuiltins x = some (.type T)) (ha : YA X F W (e :: es) t)
    (hg : Gl X x := by rfl) (hn : x ≠ "__name__" := by decide) (hdb : (x == ("__debug__" : Str)) = false := by decide)
    (he : starEach (e :: es) X.env = (false, eval e X.env) :: starEach es X.env := by rfl) (hpl : (backTo pos (starEach es X.env)).any (·.1) = false := by rfl) : YC X F W (.Call (.Name x p0) (e :: es) [] pos) (cCallB op t) :=
  PE_imp (pe_callTy hc hg hm hv ha hn hdb he hpl) fun σ H Q ⟨τ, ρ, q, x, r, s, w, f, g⟩ => ⟨τ, ρ, _, x, r, s, w, fun τ1 ds vs H1 w1 r1 e1 s1 => h τ1 vs ds H1 (q τ1) Q r1 s1 w1 (fun d v H2 w2 r2 e2 s2 => f τ1 d v H2 w2 r2 (e1.trans (.ext e2)) s2), g⟩
/-! ### operators -/
def cOp (op : Sy → DOp) (ta tb : TDY Sy) : TDY Sy := fun τ ρ q x => ta τ ρ (fun τ1 dx => tb τ1 ρ (fun τ2 dy => op τ2 dx dy (q τ2)) x) x
theorem c_op_ok {r : R2} {op : Sy → DOp} {ta tb : TDY Sy} (h : ∀ τ, OpD X.K (F.at τ) r (op τ)) : ∀ σ H Q, tDY X.K F W (cOp op ta tb) σ H Q → tOp r (tDY X.K F W ta) (tDY X.K F W tb) σ H Q := by
  rintro σ H Q ⟨τ, ρ, q, x, r, s, w, f, g⟩
  refine ⟨τ, ρ, _, x, r, s, w, fun τ1 dx v H1 w1 r1 e1 s1 => ?_, g⟩
  refine ⟨τ1, ρ, _, x, r.step e1, s1, w1, fun τ2 dy u H2 w2 r2 e2 s2 => ?_, fun C τ' H' hx e2 s2 => g C τ' H' hx (e1.trans e2) s2⟩
  exact h τ2 v u dx dy H2 (q τ2) Q (Rep.step e2 r1) r2 s2 w2 (fun d v H3 w3 r3 e3 s3 => f τ2 d v H3 w3 r3 ((e1.trans e2).trans (.ext e3)) s3)
theorem c_op {a b : Expr} {o : Operator} {r : R2} {op : Sy → DOp} {ta tb : TDY Sy} (h : ∀ τ, OpD X.K (F.at τ) r (op τ)) (ho : OpR X (binaryOp o) r) (ha : YC X F W a ta) (hb : YC X F W b tb) : YC X F W (.BinOp a o b pos) (cOp op ta tb) := PE_imp (pe_op ho ha hb) (c_op_ok h)
/-! ### tests that change the state -/
abbrev TDTY := Sy → DE → (Sy → Bool → Prop) → (Addr → Sy → Prop) → Prop
def tDTY (K : PySem.W.Frag) (F : Fam Sy) (W : WX) (t : TDTY) : TT := fun σ H Q => ∃ τ ρ q x, REnv K (F.av τ) H σ ρ ∧ F.S τ H ∧ t τ ρ q x ∧ (∀ τ' b H', q τ' b → Step F τ H τ' H' → F.S τ' H' → Q b H') ∧ ∀ C τ' H', x C τ' → Step F τ H τ' H' → F.S τ' H' → W (.ref C) none σ H'
abbrev YTC (X : Cx) (F : Fam Sy) (W : WX) (e : Expr) (t : TDTY) : Prop := PT X e (tDTY X.K F W t)
abbrev YWC (X : Cx) (F : Fam Sy) (W : WX) (e : Expr) (t : TDTY) : Prop := PW X e (tDTY X.K F W t)
def bT (t : TDY Sy) : TDTY := fun τ ρ q x => t τ ρ (fun τ1 d => ∃ b, d = .bl b ∧ q τ1 b) x
def bNot (t : TDTY) : TDTY := fun τ ρ q x => t τ ρ (fun τ1 b => q τ1 (!b)) x
def bOr (t u : TDTY) : TDTY := fun τ ρ q x => t τ ρ (fun τ1 b => if b = true then q τ1 true else u τ1 ρ q x) x
theorem b_lift {e : Expr} {t : Sy → TDT} (h : ∀ τ, ET X (F.at τ) e (t τ)) : YTC X F W e (fun τ ρ q _ => t τ ρ (q τ)) := ⟨fun pins s σ H Q I ⟨τ, ρ, q, x, r, s', w, f, g⟩ => (h τ).run pins s σ H Q I ⟨ρ, q τ, r, s', w, fun b H' a c d' => f τ b H' a (.ext c) d'⟩⟩
theorem b_fin {σ : L2.St} {H : Hp} {Q : Bool → Hp → Prop} {t : TDY Sy} : tDTY X.K F W (bT t) σ H Q → tDY X.K F W t σ H (fun x H1 => ∃ c, x = .bl c ∧ Q c H1) := by
  rintro ⟨τ, ρ, q, x, r, s, w, f, g⟩
  refine ⟨τ, ρ, _, x, r, s, w, ?_, g⟩
  rintro τ' d v H' ⟨b, rfl, w1⟩ r1 e1 s1
  cases r1
  exact ⟨b, rfl, f τ' b H' w1 e1 s1⟩
theorem b_val {e : Expr} {t : TDY Sy} (h : YC X F W e t) (he : ∀ whole, isTrue e X.env whole = (do let v ← whole; standAt e.pos; holding [v] (truthy v)) := by intro _; rfl) : YTC X F W e (bT t) := PT_imp (pt_val h he) fun σ H Q w => b_fin w
theorem b_cmp {a b : Expr} {o : CmpOp} {r : R2} {op : Sy → DOp} {ta tb : TDY Sy} (h : ∀ τ, OpD X.K (F.at τ) r (op τ)) (ho : OpR X (compareOp o) r) (ha : YC X F W a ta) (hb : YC X F W b tb) (hm : behindInMarks o b = false := by first | exact nomark _ | rfl) :
    YTC X F W (.Compare a [o] [b] pos) (bT (cOp op ta tb)) := PT_imp (pt_cmpR ho ha hb hm) fun σ H Q w => c_op_ok h σ H _ (b_fin w)
theorem b_not {e : Expr} {t : TDTY} (h : YTC X F W e t) : YTC X F W (.UnaryOp .Not e pos) (bNot t) := PT_imp (pt_not h) fun σ H Q ⟨τ, ρ, q, x, r, s, w, f, g⟩ => ⟨τ, ρ, _, x, r, s, w, fun τ1 b H1 w1 e1 s1 => f τ1 _ H1 w1 e1 s1, g⟩
theorem b_or1 {e : Expr} {t : TDTY} (h : YTC X F W e t) : YWC X F W (.BoolOp .Or [e] pos) t := pw_or1 h
theorem b_or {a b : Expr} {rest : List Expr} {t u : TDTY} (ha : YTC X F W a t) (hb : YWC X F W (.BoolOp .Or (b :: rest) pos) u) : YWC X F W (.BoolOp .Or (a :: b :: rest) pos) (bOr t u) := PW_imp (pw_or ha hb) fun σ H Q ⟨τ, ρ, q, x, r, s, w, f, g⟩ => by
  refine ⟨τ, ρ, _, x, r, s, w, fun τ1 k H1 w1 e1 s1 => ?_, g⟩
  cases k with
  | true => rw [if_pos rfl] at w1 ⊢; exact f τ1 _ H1 w1 e1 s1
  | false =>
    rw [if_neg Bool.false_ne_true] at w1 ⊢
    exact ⟨τ1, ρ, q, x, r.step e1, s1, w1, fun τ2 b H2 w2 e2 s2 => f τ2 b H2 w2 (e1.trans e2) s2, fun C τ' H' hx e2 s2 => g C τ' H' hx (e1.trans e2) s2⟩
def yIfC (c : TDTY) (t u : TDSS Sy) : TDSS Sy := fun e τ ρ => c τ ρ (fun τ1 b => if b = true then t e τ1 ρ else u e τ1 ρ) (fun C τ' => e.xc C τ' ρ)
theorem y_ifC {c : Expr} {a b : List Stmt} {tc : TDTY} {t u : TDSS Sy} (hc : YTC X F W c tc) (ha : YSs X F W a t) (hb : YSs X F W b u) : YS X F W (.If c a b pos) (yIfC tc t u) := PS_imp (ps_if hc ha hb) fun E σ H ⟨τ, ρ, en, r, s, w, f⟩ => by
  refine ⟨τ, ρ, _, _, r, s, w, fun τ1 k H1 w1 e1 s1 => ?_, fun C τ' H' hx e2 s2 => f.xc C τ' ρ σ H' hx (r.step e2) e2 s2⟩
  have r1 : REnv X.K (F.av τ1) H1 σ ρ := r.step e1
  cases k with
  | true => rw [if_pos rfl] at w1; exact iteT ⟨τ1, ρ, en, r1, s1, w1, f.step e1⟩
  | false => rw [if_neg Bool.false_ne_true] at w1; exact iteF ⟨τ1, ρ, en, r1, s1, w1, f.step e1⟩
/-! ### a, b = x, y; a, b, c = x, y, z -/
def yPar (i j : Nat) (t : TDYA) : TDSS Sy := fun e τ ρ => t τ ρ (fun τ1 ds => ∃ d c, ds = [d, c] ∧ e.nx τ1 ((ρ.set i (some d)).set j (some c))) (fun C τ' => e.xc C τ' ρ)
theorem y_par {i j : Nat} {x y : Str} {a b : Expr} {t : TDYA} {px py pt : Pos} {kt k2 pt2} (nd : X.N.Nodup) (hc : X.calm = true) (hij : i ≠ j) (ha : YA X F W [a, b] t) (hi : X.N[i]? = some x := by rfl) (hj : X.N[j]? = some y := by rfl)
    (hx : X.env.scope.names.lookup x = some .local := by rfl) (hy : X.env.scope.names.lookup y = some .local := by rfl)
    (hw : swappedStores [.Tuple [.Name x px, .Name y py] kt pt] (.Tuple [a, b] k2 pt2) X.env = pure (some [x, y]) := by rfl)
    (hs : swapsWithSole [.Tuple [.Name x px, .Name y py] kt pt] (.Tuple [a, b] k2 pt2) pos.line X.env = pure false := by rfl) :
    YS X F W (.Assign [.Tuple [.Name x px, .Name y py] kt pt] (.Tuple [a, b] k2 pt2) pos) (yPar i j t) :=
  PS_imp (ps_par hc nd hi hj hij hx hy ha hw hs) fun E σ H ⟨τ, ρ, en, r, s, w, f⟩ => by
    refine ⟨τ, ρ, _, _, r, s, w, ?_, fun C τ' H' hx e2 s2 => f.xc C τ' ρ σ H' hx (r.step e2) e2 s2⟩
    rintro τ1 ds vs H1 ⟨d, c, rfl, w1⟩ r1 e1 s1
    obtain ⟨u, v, rfl, r2, r3⟩ := r1.two
    exact ⟨u, v, rfl, f.nx τ1 _ _ H1 w1 (((r.step e1).set r2 i).set r3 j) e1 s1⟩
def yPar3 (i j l : Nat) (t : TDYA) : TDSS Sy := fun e τ ρ => t τ ρ (fun τ1 ds => ∃ d c b, ds = [d, c, b] ∧ e.nx τ1 (((ρ.set i (some d)).set j (some c)).set l (some b))) (fun C τ' => e.xc C τ' ρ)
theorem y_par3 {i j l : Nat} {x y z : Str} {a b c : Expr} {t : TDYA} {px py pz pt : Pos} {kt k2 pt2} (nd : X.N.Nodup) (hc : X.calm = true) (hij : i ≠ j) (hil : i ≠ l) (hjl : j ≠ l) (ha : YA X F W [a, b, c] t) (hi : X.N[i]? = some x := by rfl) (hj : X.N[j]? = some y := by rfl) (hl : X.N[l]? = some z := by rfl)
    (hx : X.env.scope.names.lookup x = some .local := by rfl) (hy : X.env.scope.names.lookup y = some .local := by rfl) (hz : X.env.scope.names.lookup z = some .local := by rfl)
    (hw : swappedStores [.Tuple [.Name x px, .Name y py, .Name z pz] kt pt] (.Tuple [a, b, c] k2 pt2) X.env = pure (some [x, y, z]) := by rfl)
    (hs : swapsWithSole [.Tuple [.Name x px, .Name y py, .Name z pz] kt pt] (.Tuple [a, b, c] k2 pt2) pos.line X.env = pure false := by rfl) :
    YS X F W (.Assign [.Tuple [.Name x px, .Name y py, .Name z pz] kt pt] (.Tuple [a, b, c] k2 pt2) pos) (yPar3 i j l t) :=
  PS_imp (ps_par3 hc nd hi hj hl hij hil hjl hx hy hz ha hw hs) fun E σ H ⟨τ, ρ, en, r, s, w, f⟩ => by
    refine ⟨τ, ρ, _, _, r, s, w, ?_, fun C τ' H' hx e2 s2 => f.xc C τ' ρ σ H' hx (r.step e2) e2 s2⟩
    rintro τ1 ds vs H1 ⟨d, c, b, rfl, w1⟩ r1 e1 s1
    cases r1 with
    | cons q1 t1 =>
      obtain ⟨u, v, rfl, q2, q3⟩ := t1.two
      exact ⟨_, u, v, rfl, f.nx τ1 _ _ H1 w1 ((((r.step e1).set q1 i).set q2 j).set q3 l) e1 s1⟩
/-! ### try: .. where nothing is raised -/
def yTry (t : TDSS Sy) : TDSS Sy := fun e τ ρ => t ⟨e.nx, e.rt, fun _ _ _ => False⟩ τ ρ
theorem y_try {x : Str} {c : Value} {body suite : List Stmt} {b₀ : Stmt} {np pos' : Pos} {t : TDSS Sy} (hs : X.stack = X.env :: X.outer) (hf : X.env.frame = some X.env.locals) (hc : Names X x c) (tk : Takes X W)
    (hb : ∀ (W' : WX) (pn : List (Addr × Obj)) (xe : Value → Shared → Prop), Takes (X.tr pn xe) W' → PassesOwn (model X.prog X.w) X.A X.env xe → YSs (X.tr pn xe) F W' body t) :
    YS X F W (.Try body [.ExceptHandler (some (.Name x np)) none (b₀ :: suite) pos'] [] [] pos) (yTry t) :=
  PS_imp (ps_try_only (ts := fun _ _ _ _ _ _ => False) (tb := fun W' => tDSS X.K F W' t) hs hf hc tk hb fun a oe cls d pn _ _ => ⟨fun _ _ _ _ _ _ h => h.elim⟩) fun E σ H ⟨τ, ρ, en, r, s, w, f⟩ =>
    ⟨τ, ρ, _, r, s, w, ⟨f.nx, f.rt, fun C τ' ρ' σ' H' h _ _ _ => h.elim⟩⟩
/-! ### not reached -/
theorem y_never {st : Stmt} : YS X F W st (fun _ _ _ => False) := ⟨fun pins s σ H E I h => by
  obtain ⟨_, _, _, _, _, w, _⟩ := h
  exact w.elim⟩
theorem ys_never {sts : List Stmt} : YSs X F W sts (fun _ _ _ => False) := ⟨fun pins s σ H E I h => by
  obtain ⟨_, _, _, _, _, w, _⟩ := h
  exact w.elim⟩
end
end Dl

set_option Elab.async false
set_option linter.all false
set_option maxRecDepth 100000
set_option maxHeartbeats 4000000
namespace Dl
open PySem PySem.Spec PyProof.Rows L2
/-! ## what was left for a store's law -/
theorem PotAt.sym {a : Addr} {K : PySem.W.Frag} {R0 : Res} {h0 : ∀ H, R0.Ss H} (h : PotAt a R0) (τ : Sy) : PotAt a ((symF K R0 h0).at τ) :=
  ⟨h.mem, fun H s => h.at_ H ⟨s.1, h0 H⟩, fun H x y z s => ⟨(h.put H x y z ⟨s.1, h0 H⟩).1, (symF K R0 h0).mono τ H _ (fun b o m e => by
    rw [upd_ne (fun q => m (by subst q; exact h.mem))]; exact e) s.2⟩⟩
/-- no error comes of it: a promise of a def that may raise is one of a def that doesn't -/
theorem FnX.toG {P : Program} {w : World} {K : PySem.W.Frag} {mg : Str → Option Value} {base : Heap} {k : Nat} {f : Addr} {fd : FuncData} {ps : List Str} {sp sp' : Sp} (F : FnX P w K mg base k f fd ps sp) (h : ∀ vs H Q E, sp' vs H Q E → sp vs H Q E0) : FnG P w K mg base k f fd ps sp' :=
  ⟨fun vs H Q E q => F.len vs H Q _ (h _ _ _ _ q), fun A outer s H args us vs Q E hr hg he hb hv hs => codeAny_mono (F.run A outer s H args us vs Q E0 hr hg he hb hv (h _ _ _ _ hs)) fun r s' hq => by
    cases r with
    | ok fl => cases fl <;> exact hq
    | error e =>
      obtain ⟨_, _, _, _, _, _, _, _, _, _, _, _, hE⟩ := hq
      exact hE.elim⟩
section
variable {X : Cx}
theorem call_typeI : CallR X (.type "type") (fun xs H Q => ∃ a C dx fs, xs = [V.ref a] ∧ H a = some (.ins C dx fs) ∧ Q (.ref C) H) := by
  intro pins s σ H xs us Q I r h
  obtain ⟨a, C, dx, fs, rfl, e, q⟩ := h
  obtain ⟨u, rfl, ru⟩ := vals1 r
  obtain rfl : u = Value.ref a := ru
  obtain ⟨_, _, _, ho, _⟩ := (show ObjOk X.prog X.w H s.heap a (.ins C dx fs) from I.hok a _ e)
  obtain ⟨hh, g, d, t, os⟩ := s
  exact call_type_obj ho rfl ⟨.ref C, H, I, rfl, q⟩
end
section
variable {X : Cx} {R0 : Res} {h0 : ∀ H, R0.Ss H} {W : WX} {pos : Pos} {R : Res} {τ : Sy} {F : Fam Sy}
theorem c_cmp {a b : Expr} {o : CmpOp} {r : R2} {op : Sy → DOp} {ta tb : TDY Sy} (h : ∀ τ, OpD X.K (F.at τ) r (op τ)) (ho : OpR X (compareOp o) r) (ha : YC X F W a ta) (hb : YC X F W b tb) (hm : behindInMarks o b = false := by first | exact nomark _ | rfl) :
    YC X F W (.Compare a [o] [b] pos) (cOp op ta tb) := PE_imp (pe_cmpR ho ha hb hm) (c_op_ok h)
/-! ### for a, b in rows: rows of data -/
def yForT (is : List Nat) (lst : Bool) (t : TDY Sy) (tb : TDSS Sy) : TDSS Sy := fun e τ ρ => t τ ρ (fun τ1 d => ∃ rs : List (List D), (if lst = true then (d = .lst (rs.map D.tup) ∨ d = .seq (rs.map D.tup)) else d = .tup (rs.map D.tup)) ∧ (∀ r ∈ rs, r.length = is.length) ∧ ∃ Iv : Nat → Sy → DE → Prop, Iv 0 τ1 ρ ∧
  (∀ j r τ' ρ', rs[j]? = some r → Iv j τ' ρ' → tb ⟨Iv (j + 1), e.rt, e.xc⟩ τ' (setAll is r ρ')) ∧ ∀ τ' ρ', Iv rs.length τ' ρ' → e.nx τ' ρ') (fun C τ' => e.xc C τ' ρ)
theorem row_ok {is : List Nat} {rs : List (List D)} {xs : List V} {τ' : Sy} {ρ' : DE} {σ' : L2.St} {H' : Hp} {j : Nat} {x : V} {Q : L2.St → Hp → Prop} (ra : RepAll X.K (F.av τ') H' xs (rs.map D.tup)) (hl : ∀ r ∈ rs, r.length = is.length) (hx : xs[j]? = some x) (r2 : REnv X.K (F.av τ') H' σ' ρ')
    (go : ∀ r σ2, rs[j]? = some r → REnv X.K (F.av τ') H' σ2 (setAll is r ρ') → Q σ2 H') : gTup X.K is.length (gNames is) x σ' H' Q := by
  obtain ⟨d, hd, rd⟩ := ra.get' hx
  rw [List.getElem?_map] at hd
  cases hr : rs[j]? with
  | none => rw [hr] at hd; cases hd
  | some r =>
    rw [hr] at hd
    cases hd
    have hlr := hl r (List.mem_of_getElem? hr)
    cases rd with
    | @tup a ys _ h rr =>
      have hy : ys.length = is.length := by rw [rr.length]; exact hlr
      exact ⟨a, ys, rfl, h.sq, hy, gNames_ok is ys r σ' ρ' _ rr hy r2 fun σ2 rr2 => go r σ2 hr rr2⟩
theorem y_forTup {is : List Nat} {es : List Expr} {kk : Nat} {tp : Pos} {iter : Expr} {body : List Stmt} {t : TDY Sy} {tb : TDSS Sy} (hp : PassesOwn (model X.prog X.w) X.A X.env X.xe) (hc : X.calm = true) (hi : YC X F W iter t) (hg : PGs X es (gNames is)) (hb : YSs X F W body tb)
    (hn : (assignEach es X.env).length = is.length := by rfl) (hst : (assignEach es X.env).findIdx? (·.1) = none := by rfl)
    (hs : ∀ x, foldedSetIterable iter X.env x = pure x := by intro _; rfl) : YS X F W (.For (.Tuple es kk tp) iter body [] pos) (yForT is false t tb) :=
  PS_imp (ps_for hp hc (pi_tup hi) (pg_tup hc hg hn hst) hb hs) fun E σ H ⟨τ, ρ, en, r, s, w, f⟩ => by
    refine ⟨τ, ρ, _, _, r, s, w, ?_, fun C τ' H' hx e2 s2 => f.xc C τ' ρ σ H' hx (r.step e2) e2 s2⟩
    rintro τ1 d v H1 ⟨rs, hd, hlr, Iv, h0, hstep, hend⟩ r1 e1 s1
    rw [if_neg Bool.false_ne_true] at hd
    subst hd
    cases r1 with
    | @tup a xs _ h ra =>
      have hlen : xs.length = rs.length := by rw [ra.length, List.length_map]
      refine ⟨a, rfl, ⟨xs, h.sq⟩, ?_⟩
      refine for_it (walk_tup (K := X.K) (a := a) (xs := xs)) (fun j σ' H' => j ≤ xs.length ∧ ∃ τ' ρ', Step F τ1 H1 τ' H' ∧ F.S τ' H' ∧ REnv X.K (F.av τ') H' σ' ρ' ∧ Iv j τ' ρ') ⟨Nat.zero_le _, τ1, ρ, .refl, s1, r.step e1, h0⟩ (fun j σ' H' _ ⟨_, τ', ρ', e2, _⟩ => (SqTp.mono e2.keep' h).sq) ?_ ?_
      · rintro j x σ' H' H'' hj ⟨_, τ', ρ', e2, s2, r2, iv⟩ ⟨rfl, hx⟩
        refine row_ok (F := F) (ra.steps e2) hlr hx r2 fun r σ2 hr rr => ?_
        refine ⟨τ', _, _, rr, s2, hstep j r τ' ρ' hr iv, ⟨fun τ3 ρ3 σ3 H3 w3 r3 e3 s3 => ?_, fun τ3 d3 v3 H3 w3 r3 e3 s3 => f.rt τ3 d3 v3 H3 w3 r3 ((e1.trans e2).trans e3) s3, fun C τ3 ρ3 σ3 H3 w3 r3 e3 s3 => f.xc C τ3 ρ3 σ3 H3 w3 r3 ((e1.trans e2).trans e3) s3⟩⟩
        exact ⟨hj, τ3, ρ3, e2.trans e3, s3, r3, w3⟩
      · rintro σ' H' ⟨_, τ', ρ', e2, s2, r2, iv⟩
        rw [hlen] at iv
        exact f.nx τ' ρ' σ' H' (hend τ' ρ' iv) r2 (e1.trans e2) s2
theorem y_forLst {is : List Nat} {es : List Expr} {kk : Nat} {tp : Pos} {iter : Expr} {body : List Stmt} {t : TDY Sy} {tb : TDSS Sy} (hp : PassesOwn (model X.prog X.w) X.A X.env X.xe) (hc : X.calm = true) (hi : YC X F W iter t) (hg : PGs X es (gNames is)) (hb : YSs X F W body tb)
    (hn : (assignEach es X.env).length = is.length := by rfl) (hst : (assignEach es X.env).findIdx? (·.1) = none := by rfl)
    (hs : ∀ x, foldedSetIterable iter X.env x = pure x := by intro _; rfl) : YS X F W (.For (.Tuple es kk tp) iter body [] pos) (yForT is true t tb) :=
  PS_imp (ps_for hp hc (pi_list hi) (pg_tup hc hg hn hst) hb hs) fun E σ H ⟨τ, ρ, en, r, s, w, f⟩ => by
    refine ⟨τ, ρ, _, _, r, s, w, ?_, fun C τ' H' hx e2 s2 => f.xc C τ' ρ σ H' hx (r.step e2) e2 s2⟩
    rintro τ1 d v H1 ⟨rs, hd, hlr, Iv, h0, hstep, hend⟩ r1 e1 s1
    rw [if_pos rfl] at hd
    obtain ⟨a, xs, rfl, h, n, ra⟩ : ∃ a xs, v = .ref a ∧ H1 a = some (.lst xs) ∧ a ∉ F.av τ1 ∧ RepAll X.K (F.av τ1) H1 xs (rs.map D.tup) := by
      rcases hd with rfl | rfl
      · cases r1 with
        | lst h n z ra => exact ⟨_, _, rfl, h, n, ra⟩
      · cases r1 with
        | seq h n ra => exact ⟨_, _, rfl, h, n, ra⟩
    have hlen : xs.length = rs.length := by rw [ra.length, List.length_map]
    refine ⟨a, rfl, ⟨xs, .of h⟩, ?_⟩
    refine for_it (walk_list (K := X.K) (a := a) (xs := xs)) (fun j σ' H' => j ≤ xs.length ∧ ∃ τ' ρ', Step F τ1 H1 τ' H' ∧ F.S τ' H' ∧ REnv X.K (F.av τ') H' σ' ρ' ∧ Iv j τ' ρ') ⟨Nat.zero_le _, τ1, ρ, .refl, s1, r.step e1, h0⟩ (fun j σ' H' _ ⟨_, τ', ρ', e2, _⟩ => .of (e2.keep' _ _ n h)) ?_ ?_
    · rintro j x σ' H' H'' hj ⟨_, τ', ρ', e2, s2, r2, iv⟩ ⟨rfl, hx⟩
      refine row_ok (F := F) (ra.steps e2) hlr hx r2 fun r σ2 hr rr => ?_
      refine ⟨τ', _, _, rr, s2, hstep j r τ' ρ' hr iv, ⟨fun τ3 ρ3 σ3 H3 w3 r3 e3 s3 => ?_, fun τ3 d3 v3 H3 w3 r3 e3 s3 => f.rt τ3 d3 v3 H3 w3 r3 ((e1.trans e2).trans e3) s3, fun C τ3 ρ3 σ3 H3 w3 r3 e3 s3 => f.xc C τ3 ρ3 σ3 H3 w3 r3 ((e1.trans e2).trans e3) s3⟩⟩
      exact ⟨hj, τ3, ρ3, e2.trans e3, s3, r3, w3⟩
    · rintro σ' H' ⟨_, τ', ρ', e2, s2, r2, iv⟩
      rw [hlen] at iv
      exact f.nx τ' ρ' σ' H' (hend τ' ρ' iv) r2 (e1.trans e2) s2
/-! ### o[k] of a dict of the state, also below a list that is being made: a number -/
def IntsAt (τ : Sy) (R : Res) : Prop := ∀ H, Pot R H → ∀ m kvs k v, sget τ m = some (.dic kvs) → valD kvs k = some (.int v) → ∃ ks, H m = some (.dK ks) ∧ valV ks k = some (.int v)
theorem IntsAt.add {A : Addr} (h : IntsAt τ R) : IntsAt τ (R.add A) := fun H s => h H (Pot.of_add s)
theorem IntsAt.of {K : PySem.W.Frag} (S : SymAt K τ R) : IntsAt τ R := fun H s m kvs k v g hv => by
  obtain ⟨ks, hh, ra⟩ := S H s m _ g
  obtain ⟨u, hu, ru⟩ := (val_of ra).1 _ hv
  cases ru
  exact ⟨ks, hh, hu⟩
def vDgetN (τ : Sy) (t tk : TDE) : TDE := fun ρ q => t ρ fun d => tk ρ fun kd => ∃ m kvs k v, d = .ptr m ∧ sget τ m = some (.dic kvs) ∧ keyD kd = some k ∧ valD kvs k = some (.int v) ∧ q (.int v)
theorem d_dgetN {o i : Expr} {t tk : TDE} (S : IntsAt τ R) (hu : X.A.units + 1 < cLine) (ho : EE X R o t) (hi : EE X R i tk) (hs : NoSl i := by intro _ _; rfl) : EE X R (.Subscript o i pos) (vDgetN τ t tk) := PE_imp (pe_dget hu ho hi hs) fun σ H Q ⟨ρ, q, r, o, w, fi⟩ => by
  refine ⟨ρ, _, r, o, w, fun d x H1 w1 r1 e1 o1 => ⟨ρ, _, r.mono e1, o1, w1, ?_⟩⟩
  rintro kd y H2 ⟨m, kvs, k, v, rfl, g, hk, hv, w2⟩ r2 e2 o2
  cases r1
  obtain ⟨ks, hh, hv⟩ := S H2 o2 m kvs k v g hv
  have ek := key_rep r2 hk
  subst ek
  exact ⟨m, _, rfl, by rw [← hv]; exact DGet.k hh, fi _ _ H2 w2 (.int v) (e1.trans e2) o2⟩
/-! ### f(a=.., b=.., ..) over a state -/
/-- a def of four, called by names from the last to the first -/
structure DefXW (P : Program) (w : World) (K : PySem.W.Frag) (mg : Str → Option Value) (base : Heap) (x a b c d : Str) (k : Nat) (sp : Sp) : Prop where
  ex : ∃ (f : Addr) (fd : FuncData), FnX P w K mg base k f fd [a, b, c, d] sp ∧ mg x = some (.ref f) ∧ PySem.W.keepIn K (.ref f) = true ∧ ∀ (s : Shared) (u1 u2 u3 u4 : Value), BindsTo s fd ⟨[], [d, c, b, a].zip [u4, u3, u2, u1]⟩ ([a, b, c, d].zip [u1, u2, u3, u4])
abbrev YK (X : Cx) (F : Fam Sy) (W : WX) (kws : List Keyword) (t : TDYA) : Prop := PK X kws (tDYA X.K F W t)
theorem yk_nil : YK X F W [] cNil := ⟨fun pos pins s σ H Q I ⟨τ, ρ, q, x, r, s', w, f, g⟩ => pk_nil.run pos pins s σ H Q I (f τ [] [] H w .nil .refl s')⟩
theorem yk_cons {nm : Option Str} {kp : Pos} {e : Expr} {kws : List Keyword} {t : TDY Sy} {u : TDYA} (ha : YC X F W e t) (hr : YK X F W kws u) : YK X F W (⟨nm, e, kp⟩ :: kws) (cCons t u) :=
  ⟨fun pos pins s σ H Q I ⟨τ, ρ, q, x, r, s', w, f, g⟩ => (pk_cons (nm := nm) (kpos := kp) ha hr).run pos pins s σ H Q I (by
    refine ⟨τ, ρ, _, x, r, s', w, fun τ1 d v H1 w1 r1 e1 s1 => ?_, g⟩
    refine ⟨τ1, ρ, _, x, r.step e1, s1, w1, fun τ2 ds vs H2 w2 r2 e2 s2 => ?_, fun C τ2 H2 w2 e2 s2 => g C τ2 H2 w2 (e1.trans e2) s2⟩
    exact f τ2 (d :: ds) (v :: vs) H2 w2 (.cons (r1.step e2) r2) (e1.trans e2) s2)⟩
def cCallKw (Fd : DCallY Sy) (t : TDYA) : TDY Sy := fun τ ρ q x => t τ ρ (fun τ1 ds => ∃ a b c d, ds = [d, c, b, a] ∧ Fd [a, b, c, d] τ1 q x) x
theorem c_callKw {k : Nat} {x a b c d : Str} {p : Pos} {kws : List Keyword} {t : TDYA} {Fd : DCallY Sy} (G : DefXW X.prog X.w X.K X.mg X.base x a b c d k (spY X.K F Fd)) (tk : Takes X W) (hr : Room k X.A) (hgd : X.A.guards = some []) (ha : YK X F W kws t) (hg : Gl X x := by rfl)
    (hdb : (x == ("__debug__" : Str)) = false := by decide) (hall : (backToKw pos (keywordEach kws X.env)).all (·.1.isSome) = true := by rfl) (hks : (backToKw pos (keywordEach kws X.env)).filterMap (·.1) = [d, c, b, a] := by rfl)
    (hpl : ((backTo pos (starEach [] X.env)).any (·.1) || (backToKw pos (keywordEach kws X.env)).any (·.1.isNone)) = false := by rfl) :
    YC X F W (.Call (.Name x p) [] kws pos) (cCallKw Fd t) := by
  obtain ⟨f, fd, G, hm, hk, hbk⟩ := G.ex
  refine ⟨fun pins s σ H Q I ⟨τ, ρ, q, xx, r, sS, w, f1, g1⟩ => ?_⟩
  refine wpAny_Call_Name_kw (ld_glob I hg hm ?_ hdb)
  refine PySem.W.callWith_KW0 (h₀ := X.base) I.ok.mod.kin hk hall ?_ hpl
  refine thn (ha.run pos pins s σ H (fun vs H1 => ∃ v1 v2 v3 v4, vs = [v4, v3, v2, v1] ∧ spY X.K F Fd [v1, v2, v3, v4] H1 Q (WE W σ)) I ?_) fun ws s2 ⟨zs, H2, I2, rz, v1, v2, v3, v4, ez, q2⟩ => ⟨I2.kIn, ?_⟩
  · refine ⟨τ, ρ, _, xx, r, sS, w, ?_, g1⟩
    rintro τ1 ds vs H1 ⟨a, b, c, d, rfl, w1⟩ r1 e1 s1
    cases r1 with
    | @cons x4 _ _ _ q4 t1 => cases t1 with
      | @cons x3 _ _ _ q3 t2 =>
        obtain ⟨x2, x1, rfl, q2, q1⟩ := t2.two
        exact ⟨x1, x2, x3, x4, rfl, spY_ok (E := WE W σ) e1 f1 g1 (.cons q1 (.cons q2 (.cons q3 (.cons q4 .nil)))) s1 w1⟩
  · rw [hks]
    subst ez
    cases rz with
    | @cons _ u4 _ _ p4 t1 => cases t1 with
      | @cons _ u3 _ _ p3 t2 => cases t2 with
        | @cons _ u2 _ _ p2 t3 => cases t3 with
          | @cons _ u1 _ _ p1 t4 =>
            cases t4
            exact run_fnX (E := WE W) (args := ⟨[], [d, c, b, a].zip [u4, u3, u2, u1]⟩) G hr hgd (fun _ => hbk s2 u1 u2 u3 u4) (passAt tk σ) I2 (.cons p1 (.cons p2 (.cons p3 (.cons p4 .nil)))) q2
end
end Dl
namespace Dl
open PySem PySem.Spec PyProof.Rows L2
theorem huY {k : Nat} {A : Around} (r : Room k A) : A.units + 1 < cLine := by have := r.units; omega
end Dl
namespace Dl
open PySem PySem.Spec PyProof.Rows L2
section
variable {X : Cx}
theorem call_reprE (hg : X.A.guards = some []) (hu : X.A.units + 64 < cLine) : CallR X (.builtin "repr") (fun xs H Q => ∃ q, rRepr X.K q xs H Q) := by
  intro pins s σ H xs us Q I r h
  obtain ⟨q, h⟩ := h
  exact call_repr (q := q) hg hu pins s σ H xs us Q I r h
theorem cd_reprE {K : PySem.W.Frag} {p : Res} : CallD K p (fun xs H Q => ∃ q, rRepr K q xs H Q) reprD := fun xs ds H q Q r o w f => ⟨_, cd_repr xs ds H q Q r o w f⟩
end
end Dl

set_option Elab.async false
set_option linter.all false
set_option maxRecDepth 100000
set_option maxHeartbeats 4000000
namespace Dl
open PySem PySem.Spec PyProof.Rows L2
/-! ## errors that are caught, over a state -/
section
variable {X : Cx} {W : WX} {pos : Pos} {F : Fam Sy}
/-- the suite of the clause, over a state: the class of the error, its address -/
def tSuY (K : PySem.W.Frag) (F : Fam Sy) (W : WX) (tsu : Addr → Addr → TDSS Sy) : Addr → Value → Option Addr → TS := fun a cls d E σ H => ∃ τ ρ e C, cls = .ref C ∧ d = none ∧ REnv K (F.av τ) H σ ρ ∧ F.S τ H ∧ tsu C a e τ ρ ∧ FinSS K F W τ H e E
def yTry3 (K : PySem.W.Frag) (cs : List Value) (i : Nat) (tb : TDSS Sy) (tsu : Addr → Addr → TDSS Sy) : TDSS Sy := fun e τ ρ =>
  tb ⟨e.nx, e.rt, fun C τ' ρ' => PySem.W.exmAny K (.ref C) cs = some true ∧ ∀ a, tsu C a ⟨fun τ'' ρ'' => e.nx τ'' (ρ''.set i none), e.rt, fun _ _ _ => False⟩ τ' (ρ'.set i (some (.ptr a)))⟩ τ ρ
theorem y_try3 {n : Str} {i : Nat} {body suite : List Stmt} {b₀ : Stmt} {pos' : Pos} {tb : TDSS Sy} {tsu : Addr → Addr → TDSS Sy} {x1 x2 x3 : Str} {c1 c2 c3 : Value} {p1 p2 p3 tp : Pos} {kt : Nat} (hs : X.stack = X.env :: X.outer) (hf : X.env.frame = some X.env.locals) (hN : X.N.Nodup) (hi : X.N[i]? = some n) (hln : X.env.kindOf n = some .local) (hc1 : Names X x1 c1) (hc2 : Names X x2 c2) (hc3 : Names X x3 c3) (tk : Takes X W)
    (hb : ∀ (W' : WX) (pn : List (Addr × Obj)) (xe : Value → Shared → Prop), Takes (X.tr pn xe) W' → PassesOwn (model X.prog X.w) X.A X.env xe → YSs (X.tr pn xe) F W' body tb)
    (hsu : ∀ (a : Addr) (oe : Obj) (cls : Value) (d : Option Addr) (pn : List (Addr × Obj)), Zc cls d oe → (∃ vs, oe.data = .fields vs) → PSs (X.suite a ((a, oe) :: pn)) (b₀ :: suite) (tSuY X.K F W tsu a cls d)) :
    YS X F W (.Try body [.ExceptHandler (some (.Tuple [.Name x1 p1, .Name x2 p2, .Name x3 p3] kt tp)) (some n) (b₀ :: suite) pos'] [] [] pos) (yTry3 X.K [c1, c2, c3] i tb tsu) :=
  PS_imp (ps_try_as3 (Wout := W) (tb := fun W' => tDSS X.K F W' tb) hs hf hN hi hln hc1 hc2 hc3 tk hb hsu) fun E σ H ⟨τ, ρ, e, r, s, w, f⟩ => by
    refine ⟨τ, ρ, _, r, s, w, ⟨f.nx, f.rt, ?_⟩⟩
    rintro C τ' ρ' σ' H' ⟨hm, hall⟩ r' e' s'
    refine ⟨true, hm, fun _ a na => ⟨τ', ρ'.set i (some (.ptr a)), _, C, rfl, rfl, r'.set (.ptr a) i, s', hall a, ⟨fun τ'' ρ'' σ'' H'' w'' r'' e'' s'' => ?_, fun τ'' d v H'' w'' r'' e'' s'' => f.rt τ'' d v H'' w'' r'' (e'.trans e'') s'', fun _ _ _ _ _ z => z.elim⟩⟩, fun z => nomatch z⟩
    exact f.nx _ _ _ H'' w'' (r''.drop i) (e'.trans e'') s''
/-- the suite: return f(e) -/
def yHandR (i : Nat) (Fs : Addr → (D → Prop) → Prop) : Addr → Addr → TDSS Sy := fun C a e τ ρ => ρ[i]? = some (some (.ptr a)) ∧ Fs C (fun d => e.rt τ d)
theorem yu_ret {k i : Nat} {x y : Str} {p p1 pos3 : Pos} {Fs : Addr → (D → Prop) → Prop} (G : ∀ R : Res, DefE X.prog X.w X.K X.mg X.base x k (spP X.K R Fs)) (hr : Room k X.A) (hgd : X.A.guards = some []) (hi : X.N[i]? = some y := by rfl)
    (hv : Vis X.env.scope y := by first | exact Or.inl rfl | exact Or.inr (Or.inl rfl) | exact Or.inr (Or.inr rfl)) (hg : Gl X x := by rfl)
    (hdx : (x == ("__debug__" : Str)) = false := by decide) (hdy : (y == ("__debug__" : Str)) = false := by decide) (hcd : (y == ("__classdict__" : Str)) = false := by decide)
    (hs : starEach [.Name y p1] X.env = (false, eval (.Name y p1) X.env) :: starEach [] X.env := by rfl) (hpl : (backTo pos (starEach [] X.env)).any (·.1) = false := by rfl) :
    ∀ (a : Addr) (oe : Obj) (cls : Value) (d : Option Addr) (pn : List (Addr × Obj)), Zc cls d oe → (∃ vs, oe.data = .fields vs) → PSs (X.suite a ((a, oe) :: pn)) [.Return (some (.Call (.Name x p) [.Name y p1] [] pos)) pos3] (tSuY X.K F W (yHandR i Fs) a cls d) := by
  intro a oe cls d pn hz hf
  have G' : ∀ τ, DefE X.prog X.w X.K X.mg X.base x k (spP X.K (F.at τ) Fs) := fun τ => G _
  have run : ∀ τ, PSs (X.suite a ((a, oe) :: pn)) [.Return (some (.Call (.Name x p) [.Name y p1] [] pos)) pos3] _ := fun τ => pss_one (ps_ret (pe_callP (G' τ) hr hgd (pe_var (X := X.suite a ((a, oe) :: pn)) hi hv hdy hcd) hg hdx hs hpl))
  refine ⟨fun pins s σ H E I h => ?_⟩
  obtain ⟨τ, ρ, e, C, rfl, rfl, r, o, ⟨h1, h2⟩, f⟩ := h
  refine (run τ).run pins s σ H E I ?_
  obtain ⟨v, hv1, hv2⟩ := r.get h1
  cases hv2
  refine ⟨_, hv1, rfl, C, _, rfl, hz, hf, o, h2, ?_⟩
  exact fun d v H' w rv e' o' => f.rt τ d v H' w rv (.ext e') o'
end
end Dl

set_option Elab.async false
set_option linter.all false
set_option maxRecDepth 100000
set_option maxHeartbeats 4000000
namespace SrtIS
open PySem PyProof.Rows Srt
open SrtO (Cmp lt2 SortableO Swo Srtd Stb)
/-! ## sorted: pairs of a whole number and a text, by the number -/
def IsPIS (h : Heap) (v : Value) (x : Int) (z : Str) : Prop := ∃ a o t u n, v = .ref a ∧ h.get? a = some o ∧ o.cls = .type "tuple" ∧ o.data = .seq #[.int x t, .str z u] n
theorem IsPIS.keeps {h h' : Heap} {v : Value} {x : Int} {z : Str} (p : IsPIS h v x z) (k : ∀ b o, h.get? b = some o → o.cls = .type "tuple" → h'.get? b = some o) : IsPIS h' v x z := by
  obtain ⟨a, o, t, u, n, e, ho, hc, hd⟩ := p
  exact ⟨a, o, t, u, n, e, k _ _ ho hc, hc, hd⟩
theorem firstsIS {h : Heap} {k : Value → Int} {z : Value → Str} : ∀ {vs : List Value}, (∀ v ∈ vs, IsPIS h v (k v) (z v)) → ∃ fs : List Value, PySem.W.KatTups h vs fs ∧ fs.length = vs.length ∧ ∀ f ∈ fs, ∃ x t, f = Value.int x t
  | [], _ => ⟨[], PySem.W.KatTups.nil, rfl, fun _ hm => by simp at hm⟩
  | v :: vs, hp => by
    obtain ⟨fs, h1, h2, h3⟩ := firstsIS (vs := vs) fun v' hm => hp v' (List.mem_cons_of_mem _ hm)
    have hv := hp v (List.mem_cons_self ..)
    generalize k v = x at hv
    generalize z v = y at hv
    obtain ⟨a, o, t, u, n, e, ho, hc, hd⟩ := hv
    subst e
    refine ⟨.int x t :: fs, PySem.W.KatTups.cons ho hc hd rfl h1, by rw [List.length_cons, List.length_cons, h2], fun f hm => ?_⟩
    rcases List.mem_cons.mp hm with rfl | hm
    · exact ⟨x, t, rfl⟩
    · exact h3 f hm
section
variable {prog : Program} {w : World} {A : Around} {s : Shared} {E : Value → Shared → Prop}
theorem cmpIS {vs : List Value} {k : Value → Int} {z : Value → Str} (hp : ∀ v ∈ vs, IsPIS s.heap v (k v) (z v)) (hu : ∀ v ∈ vs, ∀ u ∈ vs, k v = k u → z v = z u) : Cmp prog w A s (tuples' true) (fun p => p.1 ∈ vs) (lt2 fun v u => decide (k v < k u)) := by
  intro p q hm hm'
  have h1 := hp _ hm
  have h2 := hp _ hm'
  have h3 := hu _ hm _ hm'
  show wpAny (model prog w) A (keyLt' (tuples' true) p.1 q.1) (fun r s' => s' = s ∧ r = decide (k p.1 < k q.1)) (fun _ _ => False) s
  generalize k p.1 = x at h1 h3 ⊢
  generalize z p.1 = y at h1 h3
  generalize k q.1 = x' at h2 h3 ⊢
  generalize z q.1 = y' at h2 h3
  obtain ⟨a, o, t, u, n, e, ho, hc, hd⟩ := h1
  obtain ⟨a', o', t', u', n', e', ho', hc', hd'⟩ := h2
  rw [e, e']
  refine PySem.W.kat_lt ho hd ho' hd' ?_
  show PySem.W.KatLex prog w A true (decide (2 < 2)) _ [(.int x t, .int x' t'), (.str y u, .str y' u')] 0 s
  refine PySem.W.kat_cons (SeqAt.EqAt.int_int x t x' t' prog w _ _ ?_)
  refine PySem.W.kat_go (fun e1 => ?_) (fun e1 => ?_)
  · have ex : x = x' := by simpa using e1
    have ey : y = y' := h3 ex
    refine PySem.W.kat_yes (PySem.W.kat_cons (SeqAt.EqAt.str_str y u y' u' prog w _ _ ?_))
    refine PySem.W.kat_go (fun _ => ?_) (fun e2 => ?_)
    · exact PySem.W.kat_yes (PySem.W.kat_nil ⟨rfl, by rw [ex]; exact (decide_eq_false (Int.lt_irrefl _)).symm⟩)
    · rw [ey] at e2
      simp at e2
  · exact PySem.W.kat_no (oneLt_int ⟨rfl, rfl⟩)
theorem sortableIS {a : Addr} {vs : List Value} {k : Value → Int} {z : Value → Str} (h0 : 0 < vs.length) (hp : ∀ v ∈ vs, IsPIS s.heap v (k v) (z v)) (hu : ∀ v ∈ vs, ∀ u ∈ vs, k v = k u → z v = z u) (ha : ∀ o, s.heap.get? a = some o → o.cls ≠ .type "tuple") : SortableO prog w A s a vs fun v u => decide (k v < k u) := by
  intro h' keep
  have hp' : ∀ v ∈ vs, IsPIS h' v (k v) (z v) := fun v hm => (hp v hm).keeps fun b o e c => keep b o (fun z => by subst z; exact ha o e c) e
  obtain ⟨fs, h1, h2, h3⟩ := firstsIS hp'
  refine ⟨tuples' true, fun Q E hq => ?_, cmpIS hp' hu⟩
  refine PySem.W.kat_kind (T := .type "int") h1 (by omega) (fun f hm => ?_) (by rfl) ?_
  · obtain ⟨x, t, rfl⟩ := h3 f hm
    exact PySem.W.Looks.now
  · have e : (Value.type "int" != Value.type "tuple") = true := by first | decide +kernel | rfl | decide
    rw [e]
    exact hq
theorem swo_int (k : Value → Int) : Swo fun v u => decide (k v < k u) := by
  refine ⟨fun x y h => ?_, fun x y z h1 h2 => ?_⟩
  · have := of_decide_eq_true h
    exact decide_eq_false (by omega)
  · have := of_decide_eq_false h1
    have := of_decide_eq_false h2
    exact decide_eq_false (by omega)
theorem sorted_items {Kt : Type} [DecidableEq Kt] {knd : PySem.KeyKind prog w Kt} {r d : Addr} {kvs : List (Kt × Value)} {ep : Nat} {Q : Value → Shared → Prop} (hh : A.in1.handled = none) (hv : s.heap.IsItemsView r d) (hm : s.heap.DictAt knd d kvs ep) (hn : kvs.length ≤ sizeLine)
    (hall : ∀ (h' : Heap) (tk : Nat) (as : List Addr), (∀ b o, s.heap.get? b = some o → h'.get? b = some o) → as.length = kvs.length → PySem.W.KdxG knd kvs s.heap.objs.size h' as → ∃ (k : Value → Int) (z : Value → PySem.Str), (∀ v ∈ as.map Value.ref, IsPIS h' v (k v) (z v)) ∧ (as.map Value.ref).Pairwise (fun v u => k v < k u) ∧
      Q (.ref h'.objs.size) { s with heap := sortedHeap (h'.push (seqObj "list" (as.map Value.ref).toArray 0)) h'.objs.size (as.map Value.ref) (as.map Value.ref).toArray, toks := tk }) :
    wpAny (model prog w) A (call (.builtin "sorted") [.ref r]) Q E s := by
  refine Calls.call_function_entry kind_sorted plain_sorted entry_sorted (args_sorted1 _) ?_
  unfold Builtin.«sorted»
  refine wpAny_bind (m := checkCount "sorted" 1 1 _) (wpAny_pure ?_)
  refine wpAny_bind (PySem.W.kdx_collect (knd := knd) (kvs := kvs) (ep := ep) hh hv hm hn fun h' tk as hk hl hG => ?_)
  obtain ⟨k, z, hp, hr, q⟩ := hall h' tk as hk hl hG
  have hz : (as.map Value.ref).length ≤ sizeLine := by rw [List.length_map, hl]; exact hn
  refine wpAny_bind (wpAny_newList ?_ hz)
  have hoL : (h'.push (seqObj "list" (as.map Value.ref).toArray 0)).get? h'.objs.size = some (seqObj "list" (as.map Value.ref).toArray 0) := Heap.get?_push_size _ rfl
  have keep : ∀ b o, h'.get? b = some o → (h'.push (seqObj "list" (as.map Value.ref).toArray 0)).get? b = some o := fun b o e => Heap.get?_push_of_some _ e
  have uni : ∀ v ∈ as.map Value.ref, ∀ u ∈ as.map Value.ref, k v = k u → z v = z u := fun v hv' u hu e => by
    by_cases evu : v = u
    · rw [evu]
    · exfalso
      rcases List.pairwise_iff_getElem.mp hr with hr'
      obtain ⟨i, hi, rfl⟩ := List.mem_iff_getElem.mp hv'
      obtain ⟨j, hj, rfl⟩ := List.mem_iff_getElem.mp hu
      rcases Nat.lt_trichotomy i j with c | c | c
      · have := hr' i j hi hj c; omega
      · subst c; exact evu rfl
      · have := hr' j i hj hi c; omega
  have sd : Srtd (fun v u => decide (k v < k u)) (as.map Value.ref) := by
    refine List.Pairwise.imp (fun {a b} h => ?_) hr
    exact decide_eq_false (by omega)
  refine wpAny_bind (wpAny_holding (wpAny_call_entry slot_list_sort ⟨_, hoL, rfl⟩ entry_list_sort (SrtO.list_sort_ord (swo_int k) hoL hz (fun h2 => sortableIS (by omega) (fun v hv' => (hp v hv').keeps fun b o e _ => keep b o e) uni fun o e => ?_) fun out hs hb => ⟨_, rfl, ?_⟩) (args_list_sort _)))
  · have e' : some o = some (seqObj "list" (as.map Value.ref).toArray 0) := e.symm.trans hoL
    cases e'
    intro c
    exact absurd (Value.type.inj c) (by decide)
  · have : out = as.map Value.ref := SrtO.stb_uniq (swo_int k) hs sd hb
    subst this
    exact wpAny_pure ⟨_, rfl, q⟩
end
end SrtIS
namespace Dl
open PySem PySem.Spec PyProof.Rows L2 LiI
/-! ## sorted(d.items()): whole numbers that rise, each with a text -/
section
variable {X : Cx} {e : Expr} {te : TE} {p apos cpos pos : Pos}
theorem laid_at {pins : List (Addr × Obj)} {σ : L2.St} {H : Hp} {s : Shared} {h' : Heap} {tk : Nat} {kvs : List (Key × V)} {vs : List (Key × Value)} {acc : Array Value} {c S : Nat} {as : List Addr} (I : Inv X pins σ H s) (hz : kvs.length ≤ sizeLine) (kv : KV kvs vs)
    (hk : ∀ b o, s.heap.get? b = some o → h'.get? b = some o) (hS : h'.get? S = some { cls := .type "list", dict := none, data := .seq acc c, slots := #[] }) (lo : s.heap.objs.size ≤ S) (hSn : S ∉ as) (hl : as.length = vs.length) (hG : PySem.W.KdxG (mixKind X.prog X.w) vs s.heap.objs.size h' as) (hacc : acc.toList = as.map Value.ref) :
    ∃ H' : Hp, (∀ b o, H b = some o → H' b = some o) ∧ H S = none ∧ (∀ t ∈ as, H t = none) ∧ S ∉ as ∧ H' S = some (.lst (as.map V.ref)) ∧ Paired (fun (t : Addr) (q : Key × V) => H' t = some (.tup [kV q.1, q.2])) as kvs ∧ Inv X pins σ H' { s with heap := h', toks := tk } := by
  have lk : kvs.length = vs.length := Paired.length kv
  have nd : as.Nodup := List.Pairwise.imp (fun {a b} (h : a < b) => Nat.ne_of_lt h) hG.rise
  have new : ∀ t ∈ as, H t = none := fun t ht => I.hok.fresh (Nat.le_of_lt (hG.above t ht))
  have newS : H S = none := I.hok.fresh lo
  have atP := putT_at as kvs (upd H S (.lst (as.map V.ref))) (by omega) nd
  have off : ∀ b, b ∉ as → b ≠ S → putT (upd H S (.lst (as.map V.ref))) as kvs b = H b := fun b h1 h2 => by rw [putT_off as kvs _ h1, upd_ne h2]
  have low : ∀ b o, s.heap.get? b = some o → b ∉ as ∧ b ≠ S := fun b o e => ⟨fun z => absurd (Heap.lt_size e) (Nat.not_lt.mpr (Nat.le_of_lt (hG.above b z))), Nat.ne_of_lt (Nat.lt_of_lt_of_le (Heap.lt_size e) lo)⟩
  have kp : ∀ b u, H b = some u → (putT (upd H S (.lst (as.map V.ref))) as kvs) b = some u := fun b u e => by
    rw [off b (fun z => by rw [new b z] at e; cases e) (fun z => by rw [z, newS] at e; cases e)]
    exact e
  have eS : putT (upd H S (.lst (as.map V.ref))) as kvs S = some (.lst (as.map V.ref)) := by rw [putT_off as kvs _ hSn, upd_same]
  refine ⟨putT (upd H S (.lst (as.map V.ref))) as kvs, kp, newS, new, hSn, eS, atP, ?_⟩
  refine I.call' (ch := []) rfl ⟨fun b o q _ _ _ => hk b o q, fun b o q _ _ _ => ⟨o.slots, hk b o q⟩, fun b o q n _ => ?_, fun b o q _ => ⟨o, hk b o q⟩, fun b xs q => kp b _ q, fun b o u q => kp b _ q, fun b ps q => ⟨#[], by rw [kp b _ q]; simp⟩⟩ (fun b u q => ?_) I.bare fun b z => by simp at z
  · obtain ⟨z1, z2⟩ := low b o q
    rw [off b z1 z2]
    exact n
  · by_cases hb : b ∈ as
    · obtain ⟨j, pk, e1, e2, e3⟩ := paired_ix atP hb
      rw [e3] at q
      cases q
      obtain ⟨key, k, x, f1, f2, f3⟩ := hG.pairs j b e1
      obtain ⟨qv, g1, g2, g3⟩ := LiI.paired_get kv e2
      rw [f1] at g1
      cases g1
      have rk : RelV (kV pk.1) key := by
        rw [g2]
        exact relV_key (show keyIs k key = true from f2)
      exact ⟨by show 2 ≤ sizeLine; rw [sizeLine_eq]; decide, [key, x], .cons rk (.cons g3 .nil), ⟨_, f3, rfl, _, rfl⟩⟩
    · by_cases hb2 : b = S
      · rw [hb2] at q ⊢
        rw [eS] at q
        cases q
        refine ⟨by rw [List.length_map]; omega, acc.toList, c, by rw [hacc]; exact vals_refs as, ?_⟩
        rw [Array.toArray_toList]
        exact hS
      · rw [off b hb hb2] at q
        exact (I.hok b u q).stay (fun d v _ y => hk d v y) (fun d y => kp d _ y) fun d xs y => kp d _ y
def rSortI : V → Hp → VK → Prop := fun x H Q => ∃ (d : Addr) (kvs : List (Key × V)), x = .ref d ∧ H d = some (.dK kvs) ∧ (∀ q ∈ kvs, ∃ (i : Int) (z : Str), q = (.inl i, .str z)) ∧ kvs.Pairwise (fun q r => ∃ i j : Int, q.1 = .inl i ∧ r.1 = .inl j ∧ i < j) ∧
  ∀ (H' : Hp) (p : Addr) (ts : List Addr), (∀ b o, H b = some o → H' b = some o) → H p = none → (∀ t ∈ ts, H t = none) → p ∉ ts → H' p = some (.lst (ts.map V.ref)) → Paired (fun (t : Addr) (q : Key × V) => H' t = some (.tup [kV q.1, q.2])) ts kvs → Q (.ref p) H'
theorem vals_key {kvs : List (Key × V)} {vs : List (Key × Value)} (kv : KV kvs vs) {j : Nat} {k : Key} {x : Value} (h : vs[j]? = some (k, x)) : ∃ q, kvs[j]? = some q ∧ q.1 = k ∧ RelV q.2 x := by
  have lk : kvs.length = vs.length := Paired.length kv
  have hj : j < kvs.length := by rw [lk]; exact (List.getElem?_eq_some_iff.mp h).1
  obtain ⟨y, g1, g2, g3⟩ := LiI.paired_get kv (List.getElem?_eq_getElem hj)
  rw [h] at g1
  cases g1
  exact ⟨_, List.getElem?_eq_getElem hj, g2, g3⟩
def kOfV (h : Heap) (v : Value) : Int := match v with
  | .ref a => (match h.get? a with
    | some o => (match o.data with
      | .seq its _ => (match its[0]? with
        | some (Value.int i _) => i
        | _ => 0)
      | _ => 0)
    | none => 0)
  | _ => 0
def zOfV (h : Heap) (v : Value) : Str := match v with
  | .ref a => (match h.get? a with
    | some o => (match o.data with
      | .seq its _ => (match its[1]? with
        | some (Value.str z _) => z
        | _ => Str.empty)
      | _ => Str.empty)
    | none => Str.empty)
  | _ => Str.empty
/-- sorted(e.items()) -/
theorem pe_sortedItems (hc : X.calm = true) (he : PE X e te) (hg : Gl X "sorted") (hm : X.mg "sorted" = none) (hv : bootBuiltins "sorted" = some (.builtin "sorted")) (hbase : attributeBase e "items" X.env (eval e X.env) = eval e X.env := by rfl) (hline : (apos.endLine == cpos.line) = true := by rfl)
    (hs : starEach [.Call (.Attribute e "items" apos) [] [] cpos] X.env = (false, eval (.Call (.Attribute e "items" apos) [] [] cpos) X.env) :: starEach [] X.env := by rfl) (hpl : (backTo pos (starEach [] X.env)).any (·.1) = false := by rfl) :
    PE X (.Call (.Name "sorted" p) [.Call (.Attribute e "items" apos) [] [] cpos] [] pos) (fun σ H Q => te σ H fun x H1 => rSortI x H1 Q) := by
  refine ⟨fun pins s σ H Q I hq => ?_⟩
  refine wpAny_Call_Name_kw (ld_blt I hg hm hv ?_)
  refine PyProof.Rows.callWith_builtin1 ?_ hs hpl
  rw [hs]
  show wpAny _ _ (spliced ((false, eval (.Call (.Attribute e "items" apos) [] [] cpos) X.env) :: backTo pos (starEach [] X.env))) _ _ s
  refine Calls.spliced_cons ?_
  refine wpAny_Call_method (T := "dict") (id := "dict.items") hbase rfl hline F.plainAttrs_dict F.slot_dict_items F.type_dict_items (thn (he.run pins s σ H _ I hq) fun u s1 ⟨x, H1, I1, rx, d, kvs, ex, hd, hkv, hris, q⟩ => ?_)
  subst ex
  obtain rfl : u = Value.ref d := rx
  obtain ⟨hz, hs0, vs, kv, hdo⟩ := I1.hok d _ hd
  obtain ⟨ep, hat⟩ := hdo.dictAt
  have lk : kvs.length = vs.length := Paired.length kv
  have I2 : Inv X pins σ H1 { s1 with heap := s1.heap.push { cls := .type "dict_items", data := .fields #[.ref d] } } := I1.kept (t' := s1.toks) fun b ob q => Heap.get?_push_of_some _ q
  refine ⟨hdo.typeIs, hdo.mapOf.noDict, ?_⟩
  show wpAny _ _ (callWith cpos (.builtin "dict.items") [.ref d] [] []) _ X.xe s1
  refine method_meetsIn F.slot_dict_items F.entry_dict_items rfl (PySem.evalArgs_none ⟨rfl, hdo.typeIs, F.args_dict_items_1 _, _, meets_dict_items (mixKind X.prog X.w) d hs0, ⟨vs, hdo⟩, ?_⟩)
  refine Calls.spliced_nil ?_
  refine SrtIS.sorted_items (knd := mixKind X.prog X.w) (kvs := vs) (ep := ep) (I1.ok.hd hc) ⟨_, Heap.get?_push_size _ rfl, rfl, rfl⟩ (hat.push _) (by omega) fun h' tk as hk hl hG => ?_
  have at_ : ∀ (j : Nat) (a : Addr), as[j]? = some a → ∃ (i : Int) (zz : Str) (t : Tok) (u : Tok), kvs[j]? = some (.inl i, .str zz) ∧ h'.get? a = some { cls := .type "tuple", data := .seq #[.int i t, .str zz u] } := fun j a e => by
    obtain ⟨key, k, x, f1, f2, f3⟩ := hG.pairs j a e
    obtain ⟨qv, g1, g2, g3⟩ := vals_key kv f1
    obtain ⟨i, zz, rfl⟩ := hkv qv (List.mem_of_getElem? g1)
    have rk : RelV (kV k) key := relV_key (show keyIs k key = true from f2)
    cases g2
    obtain ⟨t, rfl⟩ := (show ∃ t, key = Value.int i t from rk)
    obtain ⟨u, rfl⟩ := (show ∃ u, x = Value.str zz u from g3)
    exact ⟨i, zz, t, u, g1, f3⟩
  refine ⟨kOfV h', zOfV h', fun v hm => ?_, ?_, ?_⟩
  · obtain ⟨a, ha, rfl⟩ := List.mem_map.mp hm
    obtain ⟨j, hj⟩ := List.mem_iff_getElem?.mp ha
    obtain ⟨i, zz, t, u, _, e⟩ := at_ j a hj
    refine ⟨a, _, t, u, 0, rfl, e, rfl, ?_⟩
    unfold kOfV zOfV
    simp only [e]
    rfl
  · rw [List.pairwise_map, List.pairwise_iff_getElem]
    intro i j hi hj hij
    obtain ⟨i1, z1, t1, u1, c1, e1⟩ := at_ i _ (List.getElem?_eq_getElem hi)
    obtain ⟨i2, z2, t2, u2, c2, e2⟩ := at_ j _ (List.getElem?_eq_getElem hj)
    have x1 : kOfV h' (.ref as[i]) = i1 := by unfold kOfV; simp only [e1]; rfl
    have x2 : kOfV h' (.ref as[j]) = i2 := by unfold kOfV; simp only [e2]; rfl
    rw [x1, x2]
    obtain ⟨hi', y1⟩ := List.getElem?_eq_some_iff.mp c1
    obtain ⟨hj', y2⟩ := List.getElem?_eq_some_iff.mp c2
    obtain ⟨a, b, q1, q2, q3⟩ := List.pairwise_iff_getElem.mp hris i j hi' hj' hij
    rw [y1] at q1
    rw [y2] at q2
    cases q1
    cases q2
    exact q3
  · have hvw : (s1.heap.push { cls := .type "dict_items", data := .fields #[.ref d] }).get? s1.heap.objs.size = some { cls := .type "dict_items", data := .fields #[.ref d] } := Heap.get?_push_size _ rfl
    have hsz : s1.heap.objs.size < h'.objs.size := Heap.lt_size (hk _ _ hvw)
    have hlo : (s1.heap.push { cls := .type "dict_items", data := .fields #[.ref d] }).objs.size ≤ h'.objs.size := by have hh2 := PyProof.Rows.size_push' (h := s1.heap) (o := { cls := .type "dict_items", data := .fields #[.ref d] }); omega
    have kept : ∀ b o, h'.get? b = some o → (sortedHeap (h'.push (seqObj "list" (as.map Value.ref).toArray 0)) h'.objs.size (as.map Value.ref) (as.map Value.ref).toArray).get? b = some o := fun b o e => by
      have hlt := Heap.lt_size e
      rw [sortedHeap_old (Nat.ne_of_lt hlt) (by rw [PyProof.Rows.size_push']; exact Nat.lt_succ_of_lt hlt)]
      exact Heap.get?_push_of_some _ e
    obtain ⟨e3, hS⟩ := sortedHeap_at (h := h'.push (seqObj "list" (as.map Value.ref).toArray 0)) (a := h'.objs.size) (vs := as.map Value.ref) (n := 0) (out := (as.map Value.ref).toArray) (Heap.get?_push_size _ rfl)
    obtain ⟨H', k1, k2, k3, k4, k5, k6, J⟩ := laid_at (tk := tk) (S := h'.objs.size) I2 hz kv (fun b o e => kept b o (hk b o e)) hS hlo (fun m => Nat.lt_irrefl _ (hG.there m)) hl ⟨hG.rise, hG.above, fun j a e => by
      obtain ⟨key, k, x, f1, f2, f3⟩ := hG.pairs j a e
      exact ⟨key, k, x, f1, f2, kept _ _ f3⟩⟩ rfl
    exact ⟨.ref _, H', J, rfl, q H' _ as k1 k2 k3 k4 k5 k6⟩
variable {R : Res} {τ : Sy}
theorem Pot.more {R : Res} {H H' : Hp} (s : Pot R H) (k : ∀ b o, H b = some o → H' b = some o) : Pot R H' := by
  refine ⟨R.dep H H' (fun a m => ?_) s.1, R.mono H H' (fun b o _ e => k b o e) s.2⟩
  cases e : H a with
  | none => exact absurd (List.mem_append_left _ m) (R.nin H a s.1 s.2 e)
  | some o => exact k a o e
def kD : Key → D
  | .inl i => .int i
  | .inr x => .str x
def rowK (kv : Key × D) : D := .tup [kD kv.1, kv.2]
def vSortI (τ : Sy) (t : TDE) : TDE := fun ρ q => t ρ fun d => ∃ a kvs, d = .ptr a ∧ sget τ a = some (.dic kvs) ∧ (∀ kv ∈ kvs, ∃ (i : Int) (z : Str), kv = (.inl i, .str z)) ∧ kvs.Pairwise (fun q r => ∃ i j : Int, q.1 = .inl i ∧ r.1 = .inl j ∧ i < j) ∧ q (.seq (kvs.map rowK))
theorem pair_rel {K : PySem.W.Frag} {p : List Addr} {H : Hp} {P : Key → Key → Prop} : ∀ {ks : List (Key × V)} {kvs : List (Key × D)}, PairR K p H ks kvs → kvs.Pairwise (fun a b => P a.1 b.1) → ks.Pairwise fun a b => P a.1 b.1
  | _, _, .nil, _ => .nil
  | _, _, .cons r t, h => by
    rw [List.pairwise_cons] at h ⊢
    refine ⟨fun b m => ?_, pair_rel t h.2⟩
    have key : ∀ {ks : List (Key × V)} {kvs : List (Key × D)}, PairR K p H ks kvs → ∀ b ∈ ks, ∃ c ∈ kvs, c.1 = b.1 := by
      intro ks kvs hh
      induction hh with
      | nil => intro b m; cases m
      | @cons k v d ks kvs r t ih =>
        intro b m
        rcases List.mem_cons.mp m with rfl | m
        · exact ⟨(k, d), by simp, rfl⟩
        · obtain ⟨c, h1, h2⟩ := ih b m
          exact ⟨c, List.mem_cons_of_mem _ h1, h2⟩
    obtain ⟨c, h1, h2⟩ := key t b m
    rw [← h2]
    exact h.1 c h1
theorem pair_flat {K : PySem.W.Frag} {p : List Addr} {H : Hp} : ∀ {ks : List (Key × V)} {kvs : List (Key × D)}, PairR K p H ks kvs → (∀ kv ∈ kvs, ∃ (i : Int) (z : Str), kv = (.inl i, .str z)) → ∀ q ∈ ks, ∃ (i : Int) (z : Str), q = (.inl i, .str z)
  | _, _, .cons (k := k) (v := v) (d := d) r t, h, q, m => by
    rcases List.mem_cons.mp m with rfl | m
    · obtain ⟨i, z, e⟩ := h (k, d) (by simp)
      cases e
      cases r
      exact ⟨i, z, rfl⟩
    · exact pair_flat t (fun x mx => h x (List.mem_cons_of_mem _ mx)) q m
theorem rows_rep {K : PySem.W.Frag} {p : List Addr} {H H' : Hp} : ∀ {ts : List Addr} {ks : List (Key × V)} {kvs : List (Key × D)}, PairR K p H ks kvs → (∀ kv ∈ kvs, ∃ (i : Int) (z : Str), kv = (.inl i, .str z)) → Paired (fun (t : Addr) (q : Key × V) => H' t = some (.tup [kV q.1, q.2])) ts ks → (∀ t ∈ ts, t ∉ p) → RepAll K p H' (ts.map V.ref) (kvs.map rowK)
  | _, _, _, .nil, _, .nil, _ => .nil
  | _, _, _, .cons (k := k) (v := v) (d := d) r t, h, .cons x xs, hn => by
    obtain ⟨i, z, e⟩ := h (k, d) (by simp)
    cases e
    cases r
    refine .cons (.tup (.inl ⟨.inl x, hn _ (by simp)⟩) (.cons (.int i) (.cons (.str z) .nil))) (rows_rep t (fun y my => h y (List.mem_cons_of_mem _ my)) xs fun t m => hn t (List.mem_cons_of_mem _ m))
theorem d_sortedItems {t : TDE} (S : SymAt X.K τ R) (hc : X.calm = true) (hm : X.mg "sorted" = none) (he : EE X R e t) (hg : Gl X "sorted" := by rfl) (hv : bootBuiltins "sorted" = some (.builtin "sorted") := by decide +kernel) (hbase : attributeBase e "items" X.env (eval e X.env) = eval e X.env := by rfl) (hline : (apos.endLine == cpos.line) = true := by rfl)
    (hs : starEach [.Call (.Attribute e "items" apos) [] [] cpos] X.env = (false, eval (.Call (.Attribute e "items" apos) [] [] cpos) X.env) :: starEach [] X.env := by rfl) (hpl : (backTo pos (starEach [] X.env)).any (·.1) = false := by rfl) :
    EE X R (.Call (.Name "sorted" p) [.Call (.Attribute e "items" apos) [] [] cpos] [] pos) (vSortI τ t) := PE_imp (pe_sortedItems hc he hg hm hv hbase hline hs hpl) fun σ H Q ⟨ρ, q, r, o, w, fi⟩ => by
  refine ⟨ρ, _, r, o, w, ?_⟩
  rintro d v H1 ⟨a, kvs, rfl, g, hf, hr, w1⟩ r1 e1 o1
  cases r1
  obtain ⟨ks, hh, ra⟩ := S H1 o1 a _ g
  refine ⟨a, ks, rfl, hh, pair_flat ra hf, pair_rel (P := fun k l => ∃ i j : Int, k = .inl i ∧ l = .inl j ∧ i < j) ra hr, fun H' pp ts hk np nt hpt hl hp => ?_⟩
  have o2 : Pot R H' := Pot.more o1 hk
  refine fi _ _ H' w1 (.seq hl (R.nin H1 pp o1.1 o1.2 np) (rows_rep ra hf hp fun t m => R.nin H1 t o1.1 o1.2 (nt t m))) (e1.trans fun b u _ hb => hk b u hb) o2
end
end Dl

set_option Elab.async false
set_option linter.all false
set_option maxRecDepth 100000
set_option maxHeartbeats 4000000
namespace Dl
open PySem PySem.Spec PyProof.Rows L2
/-! ## lists of the state: read by place, copied, put; own len -/
section
variable {X : Cx} {R0 : Res} {h0 : ∀ H, R0.Ss H} {W : WX} {pos : Pos} {R : Res} {τ : Sy} {F : Fam Sy}
/-- the items of data, or of a list of the state -/
def itemsY (τ : Sy) (d : D) (xs : List D) : Prop := itemsD d = some xs ∨ ∃ l, d = .ptr l ∧ sget τ l = some (.lst xs)
theorem items_y {K : PySem.W.Frag} (S : SymAt K τ R) {H : Hp} {x : V} {d : D} {xs : List D} (o : Pot R H) (r : Rep K R.av H x d) (h : itemsY τ d xs) : ∃ a vs, x = .ref a ∧ (SqL K H a vs ∨ SqT K H a vs) ∧ RepAll K R.av H vs xs := by
  rcases h with h | ⟨l, rfl, g⟩
  · exact items_sq r h
  · cases r
    obtain ⟨vs, hh, ra⟩ := S H o l _ g
    exact ⟨l, vs, rfl, .inl (.of hh), ra⟩
def ixY (τ : Sy) : DOp := fun dx dy q => ∃ i, dy = .int i ∧ ∃ ds d, itemsY τ dx ds ∧ atI ds i = some d ∧ q d
theorem opd_ixY (S : SymAt X.K τ R) : OpD X.K R (rIx X.K) (ixY τ) := by
  rintro x y dx dy H q Q rx ry o ⟨i, rfl, ds, d, e, ha, w⟩ f
  cases ry
  obtain ⟨a, xs, rfl, sq, ra⟩ := items_y S o rx e
  obtain ⟨v, hv, rv⟩ := ra.atI ha
  rcases sq with sq | sq
  · exact .inl ⟨a, xs, i, v, rfl, rfl, sq, hv, f _ _ H w rv (Ext.refl _ _) o⟩
  · exact .inr (.inl ⟨a, xs, i, v, rfl, rfl, sq, hv, f _ _ H w rv (Ext.refl _ _) o⟩)
theorem d_ixY {a b : Expr} {ta tb : TDE} (S : SymAt X.K τ R) (ha : EE X R a ta) (hb : EE X R b tb) (hs : PlainIx b := by intro _ _; rfl) : EE X R (.Subscript a b pos) (vOp (ixY τ) ta tb) := PE_imp (pe_ix ix_seq ha hb hs) (tOp_of (opd_ixY S))
/-- list(e): a new list of the state -/
def cList (t : TDYA) : TDY Sy := fun τ ρ q x => t τ ρ (fun τ1 ds => ∃ d xs, ds = [d] ∧ itemsY τ1 d xs ∧ ∀ a, sget τ1 a = none → q ((a, .lst xs) :: τ1) (.ptr a)) x
theorem c_list {e : Expr} {p0 : Pos} {t : TDYA} (hm : X.mg "list" = none) (ha : YA X (SF X.K R0 h0) W [e] t) (hg : Gl X "list" := by rfl) (he : starEach [e] X.env = (false, eval e X.env) :: starEach [] X.env := by rfl) (hpl : (backTo pos (starEach [] X.env)).any (·.1) = false := by rfl) :
    YC X (SF X.K R0 h0) W (.Call (.Name "list" p0) [e] [] pos) (cList t) :=
  PE_imp (pe_callTy call_list_of hg hm (by decide +kernel) ha (by decide) (by decide) he hpl) fun σ H Q ⟨τ, ρ, q, x, r, s, w, f, g⟩ => ⟨τ, ρ, _, x, r, s, w, fun τ1 ds vs H1 w1 r1 e1 s1 => by
    obtain ⟨d, xs, rfl, hi, w2⟩ := w1
    obtain ⟨y, rfl, rx⟩ := r1.one
    obtain ⟨a, us, rfl, sq, ra⟩ := items_y symAt s1 rx hi
    refine ⟨a, us, rfl, sq, fun l n => ?_⟩
    have st : Step (SF X.K R0 h0) τ1 H1 ((l, .lst xs) :: τ1) (upd H1 l (.lst us)) := new_step n
    exact f _ _ _ _ (w2 l (sget_none s1 n)) (.ptr l) (e1.trans st) (new_ok s1 n ⟨us, upd_same, RepAll.step st ra⟩), g⟩
/-- o[k] = e, a list of the state -/
def yLput (t tk : Sy → TDE) (tv : TDY Sy) : TDSS Sy := fun e τ ρ => tv τ ρ (fun τ1 d => t τ1 ρ fun od => tk τ1 ρ fun kd => ∃ l xs i j, od = .ptr l ∧ sget τ1 l = some (.lst xs) ∧ kd = .int i ∧ ixN xs.length i = some j ∧ e.nx ((l, .lst (xs.set j d)) :: τ1) ρ) (fun C τ' => e.xc C τ' ρ)
theorem RepAll.set {K : PySem.W.Frag} {p : List Addr} {H : Hp} : ∀ {vs : List V} {ds : List D} {j : Nat} {v : V} {d : D}, RepAll K p H vs ds → Rep K p H v d → RepAll K p H (vs.set j v) (ds.set j d)
  | _, _, _, _, _, .nil, _ => .nil
  | _, _, 0, _, _, .cons _ t, r => .cons r t
  | _, _, j + 1, _, _, .cons h t, r => .cons h (RepAll.set t r)
theorem y_lput {o i value : Expr} {p3 : Pos} {t tk : Sy → TDE} {tv : TDY Sy} (ho : ∀ τ, EE X ((SF X.K R0 h0).at τ) o (t τ)) (hi : ∀ τ, EE X ((SF X.K R0 h0).at τ) i (tk τ)) (hv : YC X (SF X.K R0 h0) W value tv)
    (ha : ∀ v, assign (.Subscript o i p3) X.env v = (do
      let ov ← holding [v] (eval o X.env)
      let iv ← holding [v, ov] (eval i X.env)
      standAt p3
      holding [v, ov, iv] (setItem ov iv v)
      release [v, ov, iv] []) := by intro _; rfl)
    (hs : swapsWithSole [.Subscript o i p3] value pos.line X.env = pure false := by rfl) (hw : swappedStores [.Subscript o i p3] value X.env = pure none := by rfl)
    (h1 : (assignEach [.Subscript o i p3] X.env).map (·.2) = [assign (.Subscript o i p3) X.env] := by rfl) : YS X (SF X.K R0 h0) W (.Assign [.Subscript o i p3] value pos) (yLput t tk tv) :=
  PS_imp (ps_asg hv (pg_sub (y_all ho) (y_all hi) set_list ha) hs hw h1) fun E σ H ⟨τ, ρ, en, r, s, w, fi⟩ => by
  refine ⟨τ, ρ, _, _, r, s, w, ?_, fun C τ' H' hx e2 s2 => fi.xc C τ' ρ σ H' hx (r.step e2) e2 s2⟩
  rintro τ1 d y H1 w1 r1 e1 s1
  refine ⟨τ1, ρ, _, r.step e1, s1, w1, fun od x H2 w2 r2 e2 s2 => ?_⟩
  have st2 : Step (SF X.K R0 h0) τ1 H1 τ1 H2 := .ext e2
  refine ⟨τ1, ρ, _, (r.step e1).step st2, s2, w2, ?_⟩
  rintro kd z H3 ⟨l, xs, i, j, rfl, g, rfl, hj, w3⟩ r3 e3 s3
  cases r2
  cases r3
  have st3 : Step (SF X.K R0 h0) τ1 H2 τ1 H3 := .ext e3
  obtain ⟨us, hh, ra⟩ := symAt H3 s3 l _ g
  have st : Step (SF X.K R0 h0) τ1 H3 ((l, .lst (xs.set j d)) :: τ1) (upd H3 l (.lst (us.set j y))) := set_step g
  exact ⟨l, us, i, j, rfl, rfl, hh, by rw [ra.length]; exact hj, fi.nx _ ρ σ _ w3 ((((r.step e1).step st2).step st3).step st) (((e1.trans st2).trans st3).trans st) (set_ok s3 g ⟨_, upd_same, RepAll.set (RepAll.step st ra) (Rep.step st (Rep.step st3 (Rep.step st2 r1)))⟩)⟩
/-- a, b, .. = a tuple, over a state -/
def yUnp (is : List Nat) (t : TDY Sy) : TDSS Sy := fun e τ ρ => t τ ρ (fun τ1 d => ∃ ds, d = .tup ds ∧ ds.length = is.length ∧ e.nx τ1 (setAll is ds ρ)) (fun C τ' => e.xc C τ' ρ)
theorem y_unp {is : List Nat} {es : List Expr} {e : Expr} {t : TDY Sy} {k : Nat} {tp : Pos} (hc : X.calm = true) (hg : PGs X es (gNames is)) (he : YC X F W e t) (hn : (assignEach es X.env).length = is.length := by rfl) (hst : (assignEach es X.env).findIdx? (·.1) = none := by rfl)
    (hs : swapsWithSole [.Tuple es k tp] e pos.line X.env = pure false := by rfl) (hw : swappedStores [.Tuple es k tp] e X.env = pure none := by rfl)
    (h1 : (assignEach [.Tuple es k tp] X.env).map (·.2) = [assign (.Tuple es k tp) X.env] := by rfl) : YS X F W (.Assign [.Tuple es k tp] e pos) (yUnp is t) :=
  PS_imp (ps_asg he (pg_tup hc hg hn hst) hs hw h1) fun E σ H ⟨τ, ρ, en, r, s, w, f⟩ => by
    refine ⟨τ, ρ, _, _, r, s, w, ?_, fun C τ' H' hx e2 s2 => f.xc C τ' ρ σ H' hx (r.step e2) e2 s2⟩
    rintro τ1 d v H1 ⟨ds, rfl, hl, w1⟩ r1 e1 s1
    cases r1 with
    | tup h ra =>
      refine ⟨_, _, rfl, h.sq, by rw [ra.length]; exact hl, ?_⟩
      exact gNames_ok is _ ds σ ρ _ ra (by rw [ra.length]; exact hl) (r.step e1) fun σ' hr' => f.nx τ1 _ σ' H1 w1 hr' e1 s1
/-! ### comprehensions over what the state holds -/
def WalkedP (K : PySem.W.Frag) (R : Res) (H : Hp) (J : It) (ds : List D) : Prop :=
  ∃ (G : Hp → Prop) (Y : Nat → Hp → V → Hp → Prop), L2.Walk J ds.length G Y ∧ (∀ H', Ext R.p H H' → G H') ∧ ∀ i H1 x H2, i < ds.length → Ext R.p H H1 → Y i H1 x H2 → H2 = H1 ∧ ∃ d, ds[i]? = some d ∧ Rep K R.av H x d
def tDIP (K : PySem.W.Frag) (R : Res) (t : TDI) : TI := fun σ H W => ∃ ρ q, REnv K R.av H σ ρ ∧ Pot R H ∧ t ρ q ∧ ∀ ds J H', q ds → WalkedP K R H' J ds → Ext R.p H H' → Pot R H' → W J H'
abbrev EIP (X : Cx) (R : Res) (tg iter : Expr) (t : TDI) : Prop := PI X tg iter (tDIP X.K R t)
def SymP (τ : Sy) (R : Res) : Prop := ∀ H, Pot R H → ∀ a so, sget τ a = some so → a ∉ R.p
theorem symP {K : PySem.W.Frag} : SymP τ ((symF K R0 h0).at τ) := fun H s a so g m => (s.2 a so g).1 (List.mem_append_left _ m)
def iLstP (τ : Sy) (t : TDE) : TDI := fun ρ q => t ρ fun d => ∃ l ds, d = .ptr l ∧ sget τ l = some (.lst ds) ∧ q ds
theorem i_lstP {tg e : Expr} {t : TDE} (S : SymAt X.K τ R) (S' : SymP τ R) (he : EE X R e t) : EIP X R tg e (iLstP τ t) := PI_imp (pi_list he) fun σ H W ⟨ρ, q, r, o, w, f⟩ => by
  refine ⟨ρ, _, r, o, w, ?_⟩
  rintro d v H1 ⟨l, ds, rfl, g, w1⟩ r1 e1 o1
  cases r1
  obtain ⟨xs, hh, ra⟩ := S H1 o1 l _ g
  have nl := S' H1 o1 l _ g
  refine ⟨l, rfl, ⟨xs, .of hh⟩, f ds _ H1 w1 ⟨fun H => SqL X.K H l xs, YAt xs, ?_, fun H' e => .of (e _ _ nl hh), ?_⟩ e1 o1⟩
  · rw [← ra.length]; exact walk_list
  · rintro i H2 x H3 hil e2 ⟨rfl, hx⟩
    obtain ⟨d, h1, h2⟩ := ra.get' hx
    exact ⟨rfl, d, h1, h2⟩
theorem lcP_ok {K : PySem.W.Frag} {i : Nat} {w : TDI} {te : TDE} : ∀ σ H Q, tD K R (vLc i w te) σ H Q → tLc (tDIP K R w) (gName i) tYes (tEl K R te) [i] σ H Q := by
  rintro σ H Q ⟨ρ, q, r, o, w0, f⟩
  refine ⟨ρ, _, r, o, w0, ?_⟩
  rintro ds J H1 ⟨hz, Pj, hstep, hend⟩ ⟨G, Y, wk, gs, ys⟩ e1 o1 A nA
  have eA : Ext R.p H1 (upd H1 A (.lst [])) := Ext.new nA
  have rS : REnv K (R.add A).av (upd H1 A (.lst [])) σ ρ := ((r.mono e1).strong nA).mono0 (Ext.new nA)
  refine lc_it wk (fun j H' => j ≤ ds.length ∧ Ext R.p H1 H' ∧ Pot R H' ∧ ∃ acc es, H' A = some (.lst acc) ∧ RepAll K (R.add A).av H' acc es ∧ es.length = j ∧ (∀ (k : Nat) (e : D), es[k]? = some e → Pj k e) ∧ REnv K (R.add A).av H' σ ρ)
    ⟨Nat.zero_le _, eA, o1.new nA, [], [], upd_same, .nil, rfl, fun k e h => by simp at h, rS⟩ (fun j H' _ ⟨_, e2, _⟩ => gs H' e2) ?_ ?_
  · rintro j x H' H'' hj ⟨_, e2, o2, acc, es, hA, ra, hl, hP, re⟩ hy
    obtain ⟨rfl, d, hd, rd⟩ := ys j H' x H'' hj e2 hy
    have nAp : A ∉ R.p := fun m => (Pot.nin (R := R) o1 nA) (List.mem_append_left _ m)
    have oA : Pot (R.add A) H'' := Pot.add o2 nAp (by rw [hA]; exact fun z => nomatch z)
    -- the item itself was there ahead of the list: it is read at H1
    refine ⟨by show (((σ.set i none).set i (some x)).set i none) = σ.set i none; rw [List.set_set, List.set_set], ?_⟩
    dsimp only [tYes]
    rw [if_pos rfl]
    have hset : ((wipe σ [i]).set i (some x)) = (σ.set i (some x)) := by show (σ.set i none).set i (some x) = _; rw [List.set_set]
    refine ⟨A, ρ.set i (some d), Pj j, ?_, oA, hstep j d hd, ?_⟩
    · rw [hset]
      exact re.set (Rep.mono0 (p := (R.add A).av) (fun b u nb hb => e2 b u (fun m => nb (List.mem_append_left _ m)) hb) (rd.strong nA)) i
    · rintro e y H4 we ry e4 o4
      have h4 : H4 A = some (.lst acc) := e4 A _ (fun m => (Pot.nin (R := R) o1 nA) (List.mem_append_left _ m)) hA
      refine ⟨acc, h4, ?_, hj, ?_, ?_, acc ++ [y], es ++ [e], upd_same, ?_, by rw [List.length_append, hl]; rfl, ?_, ?_⟩
      · have := ra.length
        omega
      · intro b u nb hb
        have nbA : b ≠ A := ne_of_none hb nA
        rw [upd_ne nbA]
        exact e4 b u nb (e2 b u nb hb)
      · refine Pot.mix o1 (fun b u nb hb => ?_) (Pot.of_add o4) (fun b m => upd_ne (fun e => nAp (e ▸ m)))
        rw [upd_ne (ne_of_none hb nA)]
        exact e4 b u nb (e2 b u nb hb)
      · exact ((ra.mono (R := R.add A) e4).append (.cons ry .nil)).mono0 (Ext.put Res.add_mem)
      · intro k e' hk
        by_cases hkl : k < es.length
        · rw [List.getElem?_append_left hkl] at hk
          exact hP k e' hk
        · rw [List.getElem?_append_right (by omega)] at hk
          have hk0 : k - es.length = 0 := by
            by_cases h0 : k - es.length = 0
            · exact h0
            · rw [List.getElem?_eq_none (by simp; omega)] at hk; cases hk
          rw [hk0] at hk
          have : e = e' := by simpa using hk
          subst this
          have : k = j := by omega
          subst this
          exact we
      · exact (re.mono (R := R.add A) e4).mono0 (Ext.put Res.add_mem)
  · rintro H' ⟨_, e2, o2, acc, es, hA, ra, hl, hP, re⟩
    refine f _ _ H' (hend es hl hP) (.seq hA (Pot.nin (R := R) o1 nA) (RepAll.weak (fun b hb => Res.add_av hb) ra)) (e1.trans e2) o2
theorem d_lcP {i : Nat} {x : Str} {px : Pos} {elt iter : Expr} {scope : Scope} {w : TDI} {te : TDE} (hc : X.calm = true) (nd : X.N.Nodup) (hi : EIP X R (.Name x px) iter w) (ok : BlkOk X.N X.env.scope scope [(x, i)])
    (hg : ∀ (s : Shared) (H : Hp) (C : Addr) (cl : List (Str × Addr)) (fp : List Addr), PG (X.blk s H scope (compEnvC scope cl C X.env) fp) (.Name x px) (gName i))
    (he : ∀ (s : Shared) (H : Hp) (C : Addr) (cl : List (Str × Addr)) (fp : List Addr) (A : Addr), EE (X.blk s H scope (compEnvC scope cl C X.env) fp) (R.add A) elt te) (hs : ∀ x, foldedSetIterable iter X.env x = pure x := by intro _; rfl) :
    EE X R (.ListComp elt [⟨.Name x px, iter, [], 0⟩] scope pos) (vLc i w te) :=
  PE_imp (pe_lc (own := [(x, i)]) (g := gName i) (tt := tYes) (te := tEl X.K R te) hc nd hi ok hg (fun _ _ _ _ _ => pts_nil) (fun s H C cl fp => ⟨fun pins s' σ H' Q I ⟨A, w⟩ => (he s H C cl fp A).run pins s' σ H' Q I w⟩) hs) lcP_ok

end
end Dl

set_option Elab.async false
set_option linter.all false
set_option maxRecDepth 100000
set_option maxHeartbeats 4000000
namespace Dl
open PySem PySem.Spec PyProof.Rows L2
/-! ## len, str, repr of an instance with own defs for them -/
section
variable {prog : Program} {w : World} {A : Around} {E : Value → Shared → Prop} {s : Shared} {K : PySem.W.Frag} {x C f : Addr} {ox : Obj} {odd : Option Obj}
open PySem.Builtin PySem.Builtin.Str in
theorem strOf_own {Q : Value → Shared → Prop} (hu : A.units < cLine) (X : K.In s.heap) (I : PySem.W.InstAt s.heap x ox C odd) (hs : PySem.W.findIn K (.ref C) "__str__" = some (some (.ref f))) (hf : PySem.W.isFn K (.ref f) = true)
    (h : wpAny (model prog w) A (call (.ref f) [.ref x]) (fun r s₁ => ∃ z t, r = Value.str z t ∧ Q r s₁) E s) : wpAny (model prog w) A (PySem.Builtin.Str.strOf (.ref x)) Q E s := by
  unfold PySem.Builtin.Str.strOf
  rw [show isExactStr (.ref x) = false from rfl]
  rw [if_neg Bool.false_ne_true]
  refine wpAny_bind (wpAny_cRoomFor hu ?_)
  refine wpAny_bind (m := callSpecial? (.ref x) (Str.ofString "__str__")) (PySem.W.special_fn X I hs (beq_iff_eq.mp hf) (wpAny_mono h (fun r s' hr => ?_) fun _ _ y => y))
  obtain ⟨z, t, rfl, hq⟩ := hr
  exact wpAny_bind (wpAny_pure (wpAny_pure hq))
open PySem.Builtin PySem.Builtin.Str in
theorem str_own {Q : Value → Shared → Prop} (hu : A.in1.in1.units < cLine) (X : K.In s.heap) (I : PySem.W.InstAt s.heap x ox C odd) (hs : PySem.W.findIn K (.ref C) "__str__" = some (some (.ref f))) (hf : PySem.W.isFn K (.ref f) = true)
    (h : wpAny (model prog w) A.in1.in1 (call (.ref f) [.ref x]) (fun r s₁ => ∃ z t, r = Value.str z t ∧ Q r s₁) E s) : wpAny (model prog w) A (call (.type "str") [.ref x]) Q E s := by
  refine callType_codes (T := "str") (Bi := Builtin.«object.__init__») (Q₁ := fun r s₁ => ∃ z t, r = Value.str z t ∧ Q r s₁) PySem.F.called_str (PySem.F.typeCall_str_1 _) PySem.F.entry_object_init ?_ ?_
  · refine codeAny_of_tree ?_
    show wpAny _ A.in1.in1 (do checkBuiltinCall "str.__new__" ⟨[.type "str", .ref x], []⟩; again (.builtin "str.__new__" ⟨[.type "str", .ref x], []⟩)) _ _ s
    refine wpAny_bind (wpAny_of_eq (PySem.F.newCall_str_1 _) (wpAny_pure ⟨plainId_quiet (by decide +kernel) _, codeAny_builtin PySem.F.entry_str_new ?_⟩))
    rw [Around.under_plainId (by decide +kernel) _]
    rw [str_new_tree]
    refine wpAny_bind (wpAny_pure ?_)
    refine wpAny_bind (wpAny_of_eq isSubtype_str_str ?_)
    refine wpAny_bind (strOf_own hu X I hs hf (wpAny_mono h (fun r s₁ hr => ?_) fun _ _ y => y))
    obtain ⟨z, t, rfl, hq⟩ := hr
    exact ⟨z, t, rfl, wpAny_pure ⟨z, t, rfl, hq⟩⟩
  · rintro obj s₁ ⟨z, t, rfl, hq⟩
    exact ⟨typeIs_str _ _ _, PySem.F.args_object_init_2 _ _, object_init_meets PySem.F.called_str.init.lookup PySem.F.called_str.made (by decide) prog w A.in1 _ s₁ ⟨typeIs_str _ _ _, rfl, hq⟩⟩
end
section
variable {X : Cx} {R0 : Res} {h0 : ∀ H, R0.Ss H} {W : WX} {pos : Pos} {R : Res} {τ : Sy} {F : Fam Sy}
theorem run_own {A' : Around} {k : Nat} {f a : Addr} {fd : FuncData} {sp : Sp} {pins : List (Addr × Obj)} {σ : L2.St} {H : Hp} {s : Shared} {Q : VK} (G : FnX X.prog X.w X.K X.mg X.base k f fd ["self"] sp) (hb : Binds X.K fd ["self"] []) (hr : Room k A') (hg : A'.guards = some [])
    (e0 : Env0 X.prog X.w X.K X.mg X.base A' X.stack s H) (I : Inv X pins σ H s) (h : sp [.ref a] H Q E0) : wpAny (model X.prog X.w) A' (call (.ref f) [.ref a]) (EP X pins σ Q) X.xe s := by
  have b := hb s [.ref a] I.kIn (by rw [List.append_nil]; rfl)
  rw [List.append_nil] at b
  refine wpAny_call (codeAny_mono (G.run A' X.stack s H ⟨[.ref a], []⟩ [.ref a] [.ref a] Q E0 hr hg e0 b (.cons rfl .nil) h) fun r s' hq => ?_)
  cases r with
  | error e => exact pass_no (σ := σ) pins H s e s' I hq
  | ok fl =>
    cases fl with
    | ret u => exact I.after hq
    | next => exact False.elim hq
    | brk => exact False.elim hq
    | cont => exact False.elim hq
def rLenI (C : Addr) (sp : Sp) : List V → Hp → VK → Prop := fun xs H Q => ∃ a dx fs, xs = [V.ref a] ∧ H a = some (.ins C dx fs) ∧ sp [.ref a] H (fun z H' => ∃ n : Int, z = .int n ∧ 0 ≤ n ∧ n < 2 ^ 63 ∧ Q (.int n) H') E0
theorem call_lenI {C f : Addr} {k : Nat} {fd : FuncData} {sp : Sp} (M : Meth X.K C "__len__" f) (G : FnX X.prog X.w X.K X.mg X.base k f fd ["self"] sp) (hb : Binds X.K fd ["self"] []) (hr : Room (k + 1) X.A) (hgd : X.A.guards = some []) : CallR X (.builtin "len") (rLenI C sp) := by
  intro pins s σ H xs us Q I r h
  obtain ⟨a, dx, fs, rfl, ha, q⟩ := h
  obtain ⟨u, rfl, ru⟩ := r.one
  cases (show u = Value.ref a from ru)
  obtain ⟨mA, O, _⟩ := ins_get I.hok ha
  obtain ⟨od, J, _⟩ := O.look
  obtain ⟨m, hF⟩ := I.fr
  refine PySem.W.len_K hF I.ok.mod.kin J M.at_ M.fn (wpAny_mono (run_own G hb (Room.in1 hr) hgd I.env0.in1 I q) (fun w s' z => ?_) fun _ _ x => x)
  obtain ⟨z', H', I', rz, n, rfl, h1, h2, qz⟩ := z
  obtain ⟨t, rfl⟩ := (show ∃ t, w = Value.int n t from rz)
  exact ⟨⟨h1, h2⟩, .int n, H', I'.tok _, ⟨_, rfl⟩, qz⟩
def rStrI (m : Str) (C : Addr) (sp : Sp) : List V → Hp → VK → Prop := fun xs H Q => ∃ a dx fs, xs = [V.ref a] ∧ H a = some (.ins C dx fs) ∧ sp [.ref a] H (fun z H' => ∃ n : Str, z = .str n ∧ Q (.str n) H') E0
theorem call_strI {C f : Addr} {k : Nat} {fd : FuncData} {sp : Sp} (M : Meth X.K C "__str__" f) (G : FnX X.prog X.w X.K X.mg X.base k f fd ["self"] sp) (hb : Binds X.K fd ["self"] []) (hr : Room (k + 2) X.A) (hgd : X.A.guards = some []) : CallR X (.type "str") (rStrI "__str__" C sp) := by
  intro pins s σ H xs us Q I r h
  obtain ⟨a, dx, fs, rfl, ha, q⟩ := h
  obtain ⟨u, rfl, ru⟩ := r.one
  cases (show u = Value.ref a from ru)
  obtain ⟨mA, O, _⟩ := ins_get I.hok ha
  obtain ⟨od, J, _⟩ := O.look
  have hr2 : Room k X.A.in1.in1 := (show Room (k + 1) X.A.in1 from Room.in1 hr).in1
  refine str_own (by have := hr.units; show X.A.units + 1 + 1 < cLine; omega) I.kIn J M.at_ M.fn (wpAny_mono (run_own G hb hr2 hgd I.env0.in1.in1 I q) (fun w s' z => ?_) fun _ _ x => x)
  obtain ⟨z', H', I', rz, n, rfl, qz⟩ := z
  obtain ⟨t, rfl⟩ := (show ∃ t, w = Value.str n t from rz)
  exact ⟨n, t, rfl, .str n, H', I', ⟨_, rfl⟩, qz⟩
theorem call_reprI {C f : Addr} {k : Nat} {fd : FuncData} {sp : Sp} (M : Meth X.K C "__repr__" f) (G : FnX X.prog X.w X.K X.mg X.base k f fd ["self"] sp) (hb : Binds X.K fd ["self"] []) (hr : Room (k + 1) X.A) (hgd : X.A.guards = some []) : CallR X (.builtin "repr") (rStrI "__repr__" C sp) := by
  intro pins s σ H xs us Q I r h
  obtain ⟨a, dx, fs, rfl, ha, q⟩ := h
  obtain ⟨u, rfl, ru⟩ := r.one
  cases (show u = Value.ref a from ru)
  obtain ⟨mA, O, _⟩ := ins_get I.hok ha
  obtain ⟨od, J, _⟩ := O.look
  obtain ⟨m, hF⟩ := I.fr
  refine PySem.W.repr_K (by have := hr.units; show X.A.units + 1 < cLine; omega) hF I.ok.mod.kin J M.at_ M.fn (wpAny_mono (run_own G hb (Room.in1 hr) hgd I.env0.in1 I q) (fun w s' z => ?_) fun _ _ x => x)
  obtain ⟨z', H', I', rz, n, rfl, qz⟩ := z
  obtain ⟨t, rfl⟩ := (show ∃ t, w = Value.str n t from rz)
  exact ⟨.str n, H', I', ⟨_, rfl⟩, qz⟩
/-- what an own method, asked by a built-in, comes to over the state -/
def cOwn (C : Addr) (Fd : DCallY Sy) (to : Sy → TDE) (P : D → Prop) : TDY Sy := fun τ ρ q x => to τ ρ fun od => ∃ a dx fs, od = .ptr a ∧ sget τ a = some (.ins C dx fs) ∧ Fd [.ptr a] τ (fun τ' d => P d ∧ q τ' d) (fun _ _ => False)
def lenP' (d : D) : Prop := ∃ n : Int, d = .int n ∧ 0 ≤ n ∧ n < 2 ^ 63
def strP' (d : D) : Prop := ∃ n : Str, d = .str n
theorem own_fin {C : Addr} {Fd : DCallY Sy} {to : Sy → TDE} {Pd : D → Prop} {σ : L2.St} {H : Hp} {Q : VK} {r : List V → Hp → VK → Prop} (hP : ∀ a dx gs H1, H1 a = some (.ins C dx gs) → spY X.K (SF X.K R0 h0) Fd [.ref a] H1 (fun v H2 => ∃ d p, Pd d ∧ Rep X.K p H2 v d ∧ Q v H2) E0 → r [.ref a] H1 Q) :
    tDY X.K (SF X.K R0 h0) W (cOwn C Fd to Pd) σ H Q → tDF X.K (SF X.K R0 h0) to σ H fun v H1 => r [v] H1 Q := by
  rintro ⟨τ, ρ, q, x, rr, sS, w, f1, g1⟩
  refine ⟨τ, ρ, _, rr, sS, w, ?_⟩
  rintro od v H1 ⟨a, dx, fs, rfl, g, w1⟩ r1 e1 s1
  cases r1
  have st1 : Step (SF X.K R0 h0) τ H τ H1 := .ext e1
  obtain ⟨gs, hh, ra⟩ := symAt H1 s1 a _ g
  refine hP a dx gs H1 hh ?_
  refine spY_ok (E := E0) st1 (q := fun τ' d => Pd d ∧ q τ' d) (x := fun _ _ => False) (fun τ' d v H' ⟨hp, w'⟩ r' e' s' => ⟨d, _, hp, r', f1 τ' d v H' w' r' e' s'⟩) (fun _ _ _ z _ _ => z.elim) (.cons (.ptr a) .nil) s1 w1
theorem c_lenI {C : Addr} {k : Nat} {e : Expr} {p0 : Pos} {Fd : DCallY Sy} {to : Sy → TDE} (he : ∀ τ, EE X ((SF X.K R0 h0).at τ) e (to τ)) (G : MethX X.prog X.w X.K X.mg X.base C "__len__" ["self"] k (spY X.K (SF X.K R0 h0) Fd)) (hr : Room (k + 1) X.A) (hgd : X.A.guards = some []) (hm : X.mg "len" = none) (hg : Gl X "len" := by rfl)
    (hs : starEach [e] X.env = (false, eval e X.env) :: starEach [] X.env := by rfl) (hpl : (backTo pos (starEach [] X.env)).any (·.1) = false := by rfl) : YC X (SF X.K R0 h0) W (.Call (.Name "len" p0) [e] [] pos) (cOwn C Fd to lenP') := by
  obtain ⟨f, fd, G, M, hb⟩ := G.ex
  refine PE_imp (pe_callB (call_lenI M G hb hr hgd) hg hm (by decide +kernel) (pa_cons (y_all he) pa_nil hs) (by decide) (by decide) hs hpl) fun σ H Q h => ?_
  refine own_fin (r := rLenI C (spY X.K (SF X.K R0 h0) Fd)) (fun a dx gs H1 hh q => ⟨a, dx, gs, rfl, hh, ?_⟩) h
  obtain ⟨ds, τ, q, x, a1, a2, a3, a4, a5⟩ := q
  refine ⟨ds, τ, q, x, a1, a2, a3, fun τ' d v H' w r e s => ?_, a5⟩
  obtain ⟨d', p, ⟨n, rfl, n0, n1⟩, rv, q'⟩ := a4 τ' d v H' w r e s
  cases rv
  exact ⟨n, rfl, n0, n1, q'⟩
theorem c_strI {C : Addr} {k : Nat} {e : Expr} {p0 : Pos} {Fd : DCallY Sy} {to : Sy → TDE} (he : ∀ τ, EE X ((SF X.K R0 h0).at τ) e (to τ)) (G : MethX X.prog X.w X.K X.mg X.base C "__str__" ["self"] k (spY X.K (SF X.K R0 h0) Fd)) (hr : Room (k + 2) X.A) (hgd : X.A.guards = some []) (hm : X.mg "str" = none) (hg : Gl X "str" := by rfl)
    (hs : starEach [e] X.env = (false, eval e X.env) :: starEach [] X.env := by rfl) (hpl : (backTo pos (starEach [] X.env)).any (·.1) = false := by rfl) : YC X (SF X.K R0 h0) W (.Call (.Name "str" p0) [e] [] pos) (cOwn C Fd to strP') := by
  obtain ⟨f, fd, G, M, hb⟩ := G.ex
  refine PE_imp (pe_callTy (call_strI M G hb hr hgd) hg hm (by decide +kernel) (pa_cons (y_all he) pa_nil hs) (by decide) (by decide) hs hpl) fun σ H Q h => ?_
  refine own_fin (r := rStrI "__str__" C (spY X.K (SF X.K R0 h0) Fd)) (fun a dx gs H1 hh q => ⟨a, dx, gs, rfl, hh, ?_⟩) h
  obtain ⟨ds, τ, q, x, a1, a2, a3, a4, a5⟩ := q
  refine ⟨ds, τ, q, x, a1, a2, a3, fun τ' d v H' w r e s => ?_, a5⟩
  obtain ⟨d', p, ⟨n, rfl⟩, rv, q'⟩ := a4 τ' d v H' w r e s
  cases rv
  exact ⟨n, rfl, q'⟩
theorem c_reprI {C : Addr} {k : Nat} {e : Expr} {p0 : Pos} {Fd : DCallY Sy} {to : Sy → TDE} (he : ∀ τ, EE X ((SF X.K R0 h0).at τ) e (to τ)) (G : MethX X.prog X.w X.K X.mg X.base C "__repr__" ["self"] k (spY X.K (SF X.K R0 h0) Fd)) (hr : Room (k + 1) X.A) (hgd : X.A.guards = some []) (hm : X.mg "repr" = none) (hg : Gl X "repr" := by rfl)
    (hs : starEach [e] X.env = (false, eval e X.env) :: starEach [] X.env := by rfl) (hpl : (backTo pos (starEach [] X.env)).any (·.1) = false := by rfl) : YC X (SF X.K R0 h0) W (.Call (.Name "repr" p0) [e] [] pos) (cOwn C Fd to strP') := by
  obtain ⟨f, fd, G, M, hb⟩ := G.ex
  refine PE_imp (pe_callB (call_reprI M G hb hr hgd) hg hm (by decide +kernel) (pa_cons (y_all he) pa_nil hs) (by decide) (by decide) hs hpl) fun σ H Q h => ?_
  refine own_fin (r := rStrI "__repr__" C (spY X.K (SF X.K R0 h0) Fd)) (fun a dx gs H1 hh q => ⟨a, dx, gs, rfl, hh, ?_⟩) h
  obtain ⟨ds, τ, q, x, a1, a2, a3, a4, a5⟩ := q
  refine ⟨ds, τ, q, x, a1, a2, a3, fun τ' d v H' w r e s => ?_, a5⟩
  obtain ⟨d', p, ⟨n, rfl⟩, rv, q'⟩ := a4 τ' d v H' w r e s
  cases rv
  exact ⟨n, rfl, q'⟩
end
end Dl

set_option Elab.async false
set_option linter.all false
set_option maxRecDepth 100000
set_option maxHeartbeats 4000000
namespace Dl
open PySem PySem.Spec PyProof.Rows L2
section
variable {X : Cx} {R0 : Res} {h0 : ∀ H, R0.Ss H} {W : WX} {pos : Pos} {F : Fam Sy}
/-- -e -/
def vNeg (t : TDE) : TDE := fun ρ q => t ρ fun d => ∃ i : Int, d = .int i ∧ q (.int (-i))
theorem d_neg {R : Res} {e : Expr} {t : TDE} (he : EE X R e t) : EE X R (.UnaryOp .USub e pos) (vNeg t) := PE_imp (pe_un un_neg he) fun σ H Q ⟨ρ, q, r, o, w, f⟩ => by
  refine ⟨ρ, _, r, o, w, ?_⟩
  rintro d v H1 ⟨i, rfl, w1⟩ r1 e1 o1
  cases r1
  exact ⟨i, rfl, f _ _ H1 w1 (.int _) e1 o1⟩
/-- f() -/
theorem c_call0 {k : Nat} {x : Str} {p : Pos} {Fd : DCallY Sy} (G : DefX X.prog X.w X.K X.mg X.base x [] k (spY X.K F Fd)) (tk : Takes X W) (hr : Room k X.A) (hgd : X.A.guards = some []) (hg : Gl X x := by rfl) (hdb : (x == ("__debug__" : Str)) = false := by decide) :
    YC X F W (.Call (.Name x p) [] [] pos) (fun τ ρ q x => Fd [] τ q x) := by
  obtain ⟨f, fd, G, hm, hk, hb, _⟩ := G.ex
  refine ⟨fun pins s σ H Q I ⟨τ, ρ, q, xx, r, sS, w, f1, g1⟩ => ?_⟩
  refine wpAny_Call_Name_kw (ld_glob I hg hm ?_ hdb)
  refine PySem.W.callWith_K0 (first := []) I.kIn hk (run_fnX (E := WE W) (args := ⟨[], []⟩) G hr hgd (fun hl => by
    have b := hb s [] I.kIn (by rw [List.append_nil]; exact hl)
    rw [List.append_nil] at b
    exact b) (passAt tk σ) I .nil (spY_ok (E := WE W σ) .refl f1 g1 .nil sS w))
end
/-! ## dicts, put and merged -/
abbrev kS (x : Str) : Key := .inr x
theorem vp_eq {kvs : List (Key × D)} {k : Key} {d : D} : valD (putKD kvs k d) k = some d := by
  unfold putKD
  split
  · rename_i h
    unfold valD
    induction kvs with
    | nil => simp at h
    | cons kv kvs ih =>
      rw [List.map_cons]
      by_cases e : kv.1 = k
      · simp [e]
      · rw [if_neg e, List.find?_cons_of_neg (by simp [e])]
        refine ih ?_
        rw [List.any_cons] at h
        simpa [e] using h
  · rename_i h
    unfold valD
    rw [List.find?_append]
    have : kvs.find? (fun kv => decide (kv.1 = k)) = none := by
      rw [List.find?_eq_none]
      intro x hx hd
      exact h (List.any_eq_true.mpr ⟨x, hx, hd⟩)
    rw [this]
    simp
theorem vp_ne {kvs : List (Key × D)} {k k' : Key} {d : D} (h : k ≠ k') : valD (putKD kvs k d) k' = valD kvs k' := by
  unfold putKD
  split
  · unfold valD
    rename_i hh
    clear hh
    induction kvs with
    | nil => rfl
    | cons kv kvs ih =>
      rw [List.map_cons]
      by_cases e : kv.1 = k
      · have e' : kv.1 ≠ k' := fun z => h (e.symm.trans z)
        rw [if_pos e, List.find?_cons_of_neg (by simp [e']), List.find?_cons_of_neg (by simp [e'])]
        exact ih
      · rw [if_neg e]
        by_cases e' : kv.1 = k'
        · rw [List.find?_cons_of_pos (by simp [e']), List.find?_cons_of_pos (by simp [e'])]
        · rw [List.find?_cons_of_neg (by simp [e']), List.find?_cons_of_neg (by simp [e'])]
          exact ih
  · unfold valD
    rw [List.find?_append]
    cases kvs.find? (fun kv => decide (kv.1 = k')) with
    | some x => rfl
    | none =>
      have : ([(k, d)] : List (Key × D)).find? (fun kv => decide (kv.1 = k')) = none := by simp [h]
      rw [this]; rfl
theorem len_put {kvs : List (Key × D)} {k : Key} {d : D} (h : (valD kvs k).isSome = true) : (putKD kvs k d).length = kvs.length := by
  unfold putKD
  rw [if_pos, List.length_map]
  unfold valD at h
  rw [Option.isSome_map, List.find?_isSome] at h
  exact List.any_eq_true.mpr h
theorem put_some {kvs : List (Key × D)} {k k' : Key} {d : D} (h : (valD kvs k').isSome = true) : (valD (putKD kvs k d) k').isSome = true := by
  by_cases e : k = k'
  · subst e; rw [vp_eq]; rfl
  · rw [vp_ne e]; exact h
theorem vm_none {k : Key} : ∀ {more kvs : List (Key × D)}, valD more k = none → valD (mergeD kvs more) k = valD kvs k
  | [], kvs, _ => rfl
  | (k1, d1) :: more, kvs, h => by
    have e : k1 ≠ k := fun z => by
      subst z
      simp [valD] at h
    have h' : valD more k = none := by
      unfold valD at h ⊢
      rwa [List.find?_cons_of_neg (by simp [e])] at h
    show valD (mergeD (putKD kvs k1 d1) more) k = _
    rw [vm_none h', vp_ne e]
theorem vm_some {k : Key} {d : D} : ∀ {more kvs : List (Key × D)}, (more.map (·.1)).Nodup → valD more k = some d → valD (mergeD kvs more) k = some d
  | [], kvs, _, h => by cases h
  | (k1, d1) :: more, kvs, hn, h => by
    show valD (mergeD (putKD kvs k1 d1) more) k = _
    rw [List.map_cons, List.nodup_cons] at hn
    by_cases e : k1 = k
    · subst e
      have h1 : valD more k1 = none := by
        unfold valD
        rw [Option.map_eq_none_iff, List.find?_eq_none]
        intro x hx hd
        exact hn.1 (List.mem_map.mpr ⟨x, hx, of_decide_eq_true hd⟩)
      rw [vm_none h1, vp_eq]
      simpa [valD] using h
    · refine vm_some hn.2 ?_
      unfold valD at h ⊢
      rwa [List.find?_cons_of_neg (by simp [e])] at h
theorem lm : ∀ {more kvs : List (Key × D)}, (∀ kv ∈ more, (valD kvs kv.1).isSome = true) → (mergeD kvs more).length = kvs.length
  | [], _, _ => rfl
  | (k1, d1) :: more, kvs, h => by
    show (mergeD (putKD kvs k1 d1) more).length = _
    rw [lm (fun kv m => put_some (h kv (List.mem_cons_of_mem _ m))), len_put (h (k1, d1) (by simp))]
theorem merge_len : ∀ {more kvs : List (Key × D)}, (mergeD kvs more).length ≤ kvs.length + more.length
  | [], kvs => Nat.le_refl _
  | (k1, d1) :: more, kvs => by
    show (mergeD (putKD kvs k1 d1) more).length ≤ _
    have h1 := merge_len (more := more) (kvs := putKD kvs k1 d1)
    have h2 : (putKD kvs k1 d1).length ≤ kvs.length + 1 := by
      unfold putKD; split <;> simp
    rw [List.length_cons]; omega
def dsp (ks : List Str) (ds : List D) : List (Key × D) := (ks.map Sum.inr).zip ds
theorem put_new {kvs : List (Key × D)} {k : Key} {d : D} (h : k ∉ kvs.map (·.1)) : putKD kvs k d = kvs ++ [(k, d)] := by
  unfold putKD
  rw [if_neg]
  intro z
  obtain ⟨x, hx, e⟩ := List.any_eq_true.mp z
  exact h (List.mem_map.mpr ⟨x, hx, of_decide_eq_true e⟩)
theorem merge_app : ∀ {more kvs : List (Key × D)}, ((kvs ++ more).map (·.1)).Nodup → mergeD kvs more = kvs ++ more
  | [], kvs, _ => (List.append_nil kvs).symm
  | (k1, d1) :: more, kvs, h => by
    show mergeD (putKD kvs k1 d1) more = _
    have hk : k1 ∉ kvs.map (·.1) := fun m => by
      rw [List.map_append, List.nodup_append] at h
      exact h.2.2 k1 m k1 (by simp) rfl
    rw [put_new hk, merge_app (by rw [List.append_assoc]; exact h), List.append_assoc]; rfl
theorem dsp_keys {ks : List Str} : ∀ {ds : List D}, ks.Nodup → ((dsp ks ds).map (·.1)).Nodup := by
  induction ks with
  | nil => intro ds _; simp [dsp]
  | cons k ks ih =>
    intro ds h
    rw [List.nodup_cons] at h
    cases ds with
    | nil => simp [dsp]
    | cons d ds =>
      show ((Sum.inr k : Key) :: (dsp ks ds).map (·.1)).Nodup
      rw [List.nodup_cons]
      refine ⟨fun m => ?_, ih h.2⟩
      obtain ⟨⟨x, y⟩, hx, e⟩ := List.mem_map.mp m
      have hx' := (List.of_mem_zip hx).1
      obtain ⟨z, hz, e2⟩ := List.mem_map.mp hx'
      have : (Sum.inr z : Key) = Sum.inr k := e2.trans e
      cases this
      exact h.1 hz
theorem merge_dsp {ks : List Str} {ds : List D} (h : ks.Nodup) : mergeD [] (dsp ks ds) = dsp ks ds := merge_app (by rw [List.nil_append]; exact dsp_keys h)
theorem up_some {ks : List Str} {ds : List D} {kvs : List (Key × D)} {k : Key} {d : D} (h : ks.Nodup) (e : valD (dsp ks ds) k = some d) : valD (mergeD kvs (mergeD [] (dsp ks ds))) k = some d := by
  rw [merge_dsp h]; exact vm_some (dsp_keys h) e
theorem up_none {ks : List Str} {ds : List D} {kvs : List (Key × D)} {k : Key} (h : ks.Nodup) (e : valD (dsp ks ds) k = none) : valD (mergeD kvs (mergeD [] (dsp ks ds))) k = valD kvs k := by
  rw [merge_dsp h]; exact vm_none e
theorem up_len {ks : List Str} {ds : List D} {kvs : List (Key × D)} (h : ks.Nodup) : (mergeD kvs (mergeD [] (dsp ks ds))).length ≤ kvs.length + ks.length := by
  rw [merge_dsp h]
  have := merge_len (more := dsp ks ds) (kvs := kvs)
  have h2 : (dsp ks ds).length ≤ ks.length := by unfold dsp; rw [List.length_zip, List.length_map]; omega
  omega
theorem first_some {ks : List Str} {ds : List D} {k : Key} {d : D} (h : ks.Nodup) (e : valD (dsp ks ds) k = some d) : valD (mergeD [] (dsp ks ds)) k = some d := by rw [merge_dsp h]; exact e
theorem dsp_len {ks : List Str} {ds : List D} (h : ks.Nodup) : (mergeD [] (dsp ks ds)).length ≤ ks.length := by
  rw [merge_dsp h]; unfold dsp; rw [List.length_zip, List.length_map]; omega
theorem isS {kvs : List (Key × D)} {k : Key} {d : D} (h : valD kvs k = some d) : (valD kvs k).isSome = true := by rw [h]; rfl
end Dl

set_option Elab.async false
set_option linter.all false
set_option maxRecDepth 100000
set_option maxHeartbeats 4000000
namespace Dl
open PySem PySem.Spec PyProof.Rows L2
/-! ## classes beside types; range(a, b) -/
section
variable {prog : Program} {w : World} {A : Around} {E : Value → Shared → Prop} {s : Shared}
theorem call_ne_otherV {a b : Value} {Q : Value → Shared → Prop} {nm : Str} (hu : A.units + 1 < cLine) (hT : s.TypeIs a "type") (hp : plainIs a b = true) (ne : (a == b) = false) (sl : Slot "type" nm "object.__ne__") (h : Q .notImplemented s) : wpAny (model prog w) A (call (.builtin "object.__ne__") [a, b]) Q E s := by
  refine wpAny_call_entry sl hT PySem.F.cmpEntry_ne ?_ (PySem.F.cmpArgs_ne _ _)
  unfold Builtin.«object.__ne__»
  repeat (first
    | with_reducible refine wpAny_cRoomFor (A := A.in1) hu ?_
    | (refine wpAny_bind (m := callSpecialIfBound? a (Str.ofString "__eq__") [b]) (wpAny_callSpecialIfBound?_slot hT slot_type_eqN
        (call_gives slot_type_eqN hT F.entry_object_eq (F.args_object_eq_2 _ _) (PySem.TypeEq.object_eq_other (a := a) (b := b) hp ne) ?_)))
    | wp_step)
  exact wpAny_pure ⟨_, rfl, h⟩
theorem ne_tycls {n : String} {C : Addr} {Q : Value → Shared → Prop} (hu : A.units + 1 < cLine) (hn : n ∈ knownTy) (hT : s.TypeIs (.ref C) "type") (h : Q (.bool true) s) : wpAny (model prog w) A (compareOp .NotEq (.type n) (.ref C)) Q E s := by
  have ha := ty_meta hn s
  show wpAny _ A (richCompare .NotEq _ _) Q E s
  have h1 := slot_type_ne
  have h2 := slot_type_ne_refl
  rcases hi : cmpInfo CmpOp.NotEq with ⟨sym, f, r⟩
  rw [hi] at h1 h2
  simp only [richCompare, hi, ha.oneThing_none]
  try with_reducible refine wpAny_holding ?_
  refine wpAny_bind (wpAny_cRoomFor_or (.inr (by omega)) ?_)
  refine wpAny_bind (wpAny_typeOf ha (wpAny_bind (wpAny_typeOf hT ?_)))
  simp only [bne_self_eq_false, Bool.false_eq_true, if_false, pure_bind, Bool.not_false, if_true]
  refine wpAny_bind (m := tryCompare (Value.type n) _ (Value.ref C)) (wpAny_tryCompare_declines ha h1 (call_ne_otherV hu ha (by rfl) (by rfl) h1 ⟨rfl, ?_⟩))
  refine wpAny_bind (m := tryCompare (Value.ref C) _ (Value.type n)) (wpAny_tryCompare_declines hT h2 (call_ne_otherV hu hT (by rfl) (by rfl) h2 ⟨rfl, ?_⟩))
  refine wpAny_bind (wpAny_rule (wpAny_bind (wpAny_of_eq (isSame_plain rfl) (wpAny_pure ?_))))
  exact h
end
section
variable {X : Cx} {R0 : Res} {h0 : ∀ H, R0.Ss H} {W : WX} {pos : Pos} {R : Res} {τ : Sy} {F : Fam Sy}
theorem op_neTC (hu : X.A.units + 1 < cLine) : OpR X (compareOp .NotEq) (fun x y H Q => ∃ n C, x = .ty n ∧ y = .ref C ∧ n ∈ knownTy ∧ IsCls X.K C ∧ Q (.bl true) H) := by
  intro pins s σ H x y v u Q I rx ry h
  obtain ⟨n, C, rfl, rfl, hn, ⟨o, ho, hc⟩, q⟩ := h
  cases rx; cases ry
  exact ne_tycls hu hn ⟨o, I.kIn _ _ ho, hc⟩ ⟨.bl true, H, I, rfl, q⟩
/-- type(x) != C -/
def neTC (K : PySem.W.Frag) : DOp := fun dx dy q => ∃ C, dy = .ptr C ∧ IsCls K C ∧ ((dx = .ptr C ∧ q (.bl false)) ∨ ∃ n, dx = .ty n ∧ n ∈ knownTy ∧ q (.bl true))
theorem opr_neTC (hu : X.A.units + 1 < cLine) : OpR X (compareOp .NotEq) (fun x y H Q => (∃ C, x = .ref C ∧ y = .ref C ∧ IsCls X.K C ∧ Q (.bl false) H) ∨ ∃ n C, x = .ty n ∧ y = .ref C ∧ n ∈ knownTy ∧ IsCls X.K C ∧ Q (.bl true) H) := OpR_or (op_neCls hu) (op_neTC hu)
theorem opd_neTC {K : PySem.W.Frag} : OpD K R (fun x y H Q => (∃ C, x = .ref C ∧ y = .ref C ∧ IsCls K C ∧ Q (.bl false) H) ∨ ∃ n C, x = .ty n ∧ y = .ref C ∧ n ∈ knownTy ∧ IsCls K C ∧ Q (.bl true) H) (neTC K) := by
  rintro x y dx dy H q Q rx ry o ⟨C, rfl, hC, w⟩ f
  cases ry
  rcases w with ⟨rfl, w⟩ | ⟨n, rfl, hn, w⟩
  · cases rx
    exact .inl ⟨C, rfl, rfl, hC, f _ _ H w (.bl _) (Ext.refl _ _) o⟩
  · cases rx
    exact .inr ⟨n, C, rfl, rfl, hn, hC, f _ _ H w (.bl _) (Ext.refl _ _) o⟩
/-- type(x), of data or an instance -/
def typeA (τ : Sy) : DCall := fun ds q => typeD ds q ∨ typeP τ ds q
theorem cd_typeA (S : SymAt X.K τ R) : CallD X.K R (fun xs H Q => rTyp X.K xs H Q ∨ ∃ a C dx fs, xs = [V.ref a] ∧ H a = some (.ins C dx fs) ∧ Q (.ref C) H) (typeA τ) := by
  rintro xs ds H q Q r o w f
  rcases w with w | w
  · exact .inl (cd_type xs ds H q Q r o w f)
  · exact .inr (cd_typeP S xs ds H q Q r o w f)
/-- isinstance(x, C) -/
def isiC (K : PySem.W.Frag) (τ : Sy) (C : Addr) : DCall := fun ds q => ∃ d, ds = [d, .ptr C] ∧ ((isObjD d = true ∧ q (.bl false)) ∨ ∃ a dx fs, d = .ptr a ∧ sget τ a = some (.ins C dx fs) ∧ q (.bl true))
theorem cd_isiC {C : Addr} (S : SymAt X.K τ R) (hk : ∀ n ∈ knownTy, PySem.W.kitOne X.K (.type n) (.ref C) = some false) : CallD X.K R (fun xs H Q => rIsi X.K xs H Q ∨ ∃ a dx fs, xs = [.ref a, .ref C] ∧ H a = some (.ins C dx fs) ∧ Q (.bl true) H) (isiC X.K τ C) := by
  rintro xs ds H q Q r o ⟨d, rfl, w⟩ f
  obtain ⟨x, y, rfl, rx, ry⟩ := r.two
  cases ry
  rcases w with ⟨hd, w⟩ | ⟨a, dx, fs, rfl, g, w⟩
  · exact .inl ⟨x, .ref C, _, _, _, rfl, .own C, rep_tyX rx hd, hk _ (kind_known d hd), f _ _ H w (.bl _) (Ext.refl _ _) o⟩
  · cases rx
    obtain ⟨gs, hh, ra⟩ := S H o a _ g
    exact .inr ⟨a, dx, gs, rfl, hh, f _ _ H w (.bl _) (Ext.refl _ _) o⟩
/-- range(a, b) -/
def iRange2D (t : TDA) : TDI := fun ρ q => t ρ fun ds => ∃ i j : Int, ds = [.int i, .int j] ∧ (-(2 ^ 62) ≤ i ∧ i < 2 ^ 62 ∧ -(2 ^ 62) ≤ j ∧ j < 2 ^ 62) ∧ q ((List.range (j - i).toNat).map fun (k : Nat) => .int (i + (k : Int)))
theorem i_range2 {tg a b : Expr} {p0 pos : Pos} {t : TDA} (hm : X.mg "range" = none) (he : EA X R [a, b] t) (hg : Gl X "range" := by rfl) (hs : starEach [a, b] X.env = [(false, eval a X.env), (false, eval b X.env)] := by rfl) (hs2 : starEach [b] X.env = [(false, eval b X.env)] := by rfl) : EI X R tg (.Call (.Name "range" p0) [a, b] [] pos) (iRange2D t) := PI_imp (pi_range2 hg hm he hs hs2) fun σ H W ⟨ρ, q, r, o, w, f⟩ => by
  refine ⟨ρ, _, r, o, w, ?_⟩
  rintro ds vs H1 ⟨i, j, rfl, hb, w1⟩ r1 e1 o1
  obtain ⟨x, y, rfl, rx, ry⟩ := r1.two
  cases rx; cases ry
  refine ⟨i, j, rfl, hb, f _ _ H1 w1 ⟨fun _ => True, YFn fun k => .int (i + (k : Int)), ?_, fun _ _ => trivial, ?_⟩ e1 o1⟩
  · rw [List.length_map, List.length_range]
    exact walk_range
  · rintro k H2 x H3 hil e2 ⟨rfl, rfl⟩
    rw [List.length_map, List.length_range] at hil
    refine ⟨rfl, .int (i + (k : Int)), ?_, .int _⟩
    rw [List.getElem?_map, List.getElem?_range hil]
    rfl
end
end Dl

set_option Elab.async false
set_option linter.all false
set_option maxRecDepth 100000
set_option maxHeartbeats 4000000
namespace Dl
open PySem PySem.Spec PyProof.Rows L2
/-! ## == and != of an instance with an own == -/
section
variable {prog : Program} {w : World} {A : Around} {E : Value → Shared → Prop} {s : Shared} {K : PySem.W.Frag} {x C f L : Addr} {h₀ : Heap} {m : Str → Option Value} {ox : Obj} {od : Option Obj} {name : Str} {b tb : Value} {id B : String}
theorem ifBound_B {M : Model} {args : List Value} {Q : Option Value → Shared → Prop} (X : K.In s.heap) (I : PySem.W.InstAt s.heap x ox C od) (hs : PySem.W.findIn K (.ref C) name = some (some (.builtin id))) (S : Slot B name id)
    (h : wpAny M A (call (.builtin id) (.ref x :: args)) (fun v => Q (some v)) E s) : wpAny M A (callSpecialIfBound? (.ref x) name args) Q E s := by
  simp only [callSpecialIfBound?, bindSpecialIfBound?]
  refine wpAny_holding (wpAny_bind (wpAny_bind (wpAny_bind (I.type.here ((PySem.W.looks_findIn X hs).here ?_)))))
  simp only [S.bind]
  refine wpAny_bind (wpAny_askSetting (wpAny_ite ?_))
  have fin : wpAny M A (call (.builtin id) ([.ref x] ++ args) >>= fun v => pure (some v)) Q E s := wpAny_bind (wpAny_mono h (fun v s' h' => wpAny_pure h') fun _ _ h' => h')
  split
  · exact wpAny_bind (wpAny_pure (wpAny_pure fin))
  · exact wpAny_tryCatch (wpAny_bind (wpAny_pure (wpAny_pure fin)))
/-- the own ==, as asked by object.__ne__ -/
theorem call_neK {f : Addr} {Q : Value → Shared → Prop} (hu : A.in1.units < cLine) (X : K.In s.heap) (I : PySem.W.InstAt s.heap x ox C od) (he : PySem.W.findIn K (.ref C) "__eq__" = some (some (.ref f))) (hf : PySem.W.isFn K (.ref f) = true) (hob : PySem.W.subIn K (.ref C) (.type "object") = some true)
    (h : wpAny (model prog w) A.in1 (call (.ref f) [.ref x, b]) (fun v s' => ∃ r, v = .bool r ∧ Q (.bool (!r)) s') E s) : wpAny (model prog w) A (call (.builtin "object.__ne__") [.ref x, b]) Q E s := by
  refine wpAny_call (codeAny_call_builtin PySem.F.cmp_object.ne.plain PySem.F.cmpEntry_ne (PySem.W.check_slot PySem.F.cmpKind_ne PySem.F.cmpSplit_ne (I.type.andThen (PySem.W.looks_subIn X hob)) (PySem.F.cmpArgs_ne _ _) ?_))
  unfold Builtin.«object.__ne__»
  repeat (first
    | with_reducible refine wpAny_cRoomFor (A := A.in1) hu ?_
    | (refine wpAny_bind (m := callSpecialIfBound? (.ref x) (Str.ofString "__eq__") [b]) (PySem.W.ifBound_K X I he hf (wpAny_mono h (fun v s' hv => ?_) fun _ _ e => e)))
    | wp_step)
  obtain ⟨r, rfl, hq⟩ := hv
  refine wpAny_bind (wpAny_truthy_bool ?_)
  exact wpAny_pure hq
theorem neK {f : Addr} {Q : Value → Shared → Prop} (hu : A.units < cLine) (hu1 : A.in1.units < cLine) (F : Fr h₀ L s.heap m) (X₀ : K.In h₀) (I : PySem.W.InstAt s.heap x ox C od) (hb : PySem.W.Looks (model prog w) s.heap (typeOf b) tb) (hn : PySem.W.notFirst K C tb = true)
    (hne : PySem.W.findIn K (.ref C) "__ne__" = some (some (.builtin "object.__ne__"))) (he : PySem.W.findIn K (.ref C) "__eq__" = some (some (.ref f))) (hf : PySem.W.isFn K (.ref f) = true) (hob : PySem.W.subIn K (.ref C) (.type "object") = some true)
    (h : wpAny (model prog w) A.in1 (call (.ref f) [.ref x, b]) (fun v s' => ∃ r, v = .bool r ∧ Q (.bool (!r)) s') E s) : wpAny (model prog w) A (richCompare .NotEq (.ref x) b) Q E s := by
  have X := X₀.keeps F.keep
  have one : wpAny (model prog w) A (tryCompare (.ref x) (cmpInfo .NotEq).2.1 b) (fun r s' => ∃ v, r = some v ∧ Q v s') E s := by
    unfold tryCompare
    refine wpAny_bind (m := callSpecialIfBound? (.ref x) (Str.ofString "__ne__") [b]) (ifBound_B X I hne PySem.F.cmp_object.ne (call_neK hu1 X I he hf hob (wpAny_mono h (fun v s' hv => ?_) fun _ _ e => e)))
    obtain ⟨r, rfl, hq⟩ := hv
    exact ⟨r, rfl, wpAny_pure ⟨_, rfl, hq⟩⟩
  unfold richCompare
  simp only [oneThing_ref]
  refine wpAny_holding (wpAny_bind (wpAny_cRoomFor hu ?_))
  refine wpAny_bind (I.type.here (wpAny_bind (hb.here ?_)))
  split
  · rename_i q
    have e : PySem.W.subIn K tb (.ref C) = some false := by
      rcases Bool.or_eq_true_iff.mp hn with e | e
      · rw [beq_iff_eq.mp e] at q; simp at q
      · exact beq_iff_eq.mp e
    refine wpAny_bind ((PySem.W.looks_subIn X e).here ?_)
    simp only [Bool.false_eq_true, if_false]
    refine wpAny_bind (wpAny_mono one (fun r s' z => ?_) fun _ _ e => e)
    obtain ⟨v, rfl, hq⟩ := z
    exact wpAny_pure hq
  · refine wpAny_bind (wpAny_pure ?_)
    simp only [Bool.false_eq_true, if_false]
    refine wpAny_bind (wpAny_mono one (fun r s' z => ?_) fun _ _ e => e)
    obtain ⟨v, rfl, hq⟩ := z
    exact wpAny_pure hq
end
theorem looks_is {M : Model} {s : Shared} {v : Value} {T : String} (t : s.TypeIs v T) : PySem.W.Looks M s.heap (typeOf v) (.type T) := by
  intro A Q E s' k q
  refine wpAny_typeOf ?_ q
  cases v with
  | ref a => obtain ⟨o, ho, hc⟩ := t; exact ⟨o, k _ _ ho, hc⟩
  | _ => exact t
section
variable {X : Cx} {R0 : Res} {h0 : ∀ H, R0.Ss H} {W : WX} {pos : Pos} {R : Res} {τ : Sy} {F : Fam Sy}
theorem run_own2 {A' : Around} {k : Nat} {f a : Addr} {fd : FuncData} {sp : Sp} {pins : List (Addr × Obj)} {σ : L2.St} {H : Hp} {s : Shared} {Q : VK} {y : V} {v : Value} {n1 n2 : Str} (G : FnX X.prog X.w X.K X.mg X.base k f fd [n1, n2] sp) (hb : Binds X.K fd [n1, n2] []) (hr : Room k A') (hg : A'.guards = some [])
    (e0 : Env0 X.prog X.w X.K X.mg X.base A' X.stack s H) (I : Inv X pins σ H s) (ry : RelV y v) (h : sp [.ref a, y] H Q E0) : wpAny (model X.prog X.w) A' (call (.ref f) [.ref a, v]) (EP X pins σ Q) X.xe s := by
  have b := hb s [.ref a, v] I.kIn (by rw [List.append_nil]; rfl)
  rw [List.append_nil] at b
  refine wpAny_call (codeAny_mono (G.run A' X.stack s H ⟨[.ref a, v], []⟩ [.ref a, v] [.ref a, y] Q E0 hr hg e0 b (.cons rfl (.cons ry .nil)) h) fun r s' hq => ?_)
  cases r with
  | error e => exact pass_no (σ := σ) pins H s e s' I hq
  | ok fl =>
    cases fl with
    | ret u => exact I.after hq
    | next => exact False.elim hq
    | brk => exact False.elim hq
    | cont => exact False.elim hq
/-- the class has an own ==, and no own != -/
structure EqCls (K : PySem.W.Frag) (C : Addr) : Prop where
  cl : Cls K C
  ne : PySem.W.findIn K (.ref C) "__ne__" = some (some (.builtin "object.__ne__"))
  ob : PySem.W.subIn K (.ref C) (.type "object") = some true
  ty : ∀ n ∈ knownTy, PySem.W.subIn K (.type n) (.ref C) = some false
def rCmpI (K : PySem.W.Frag) (C : Addr) (sp : Sp) (neg : Bool) : R2 := fun x y H Q => ∃ a dx fs, x = .ref a ∧ H a = some (.ins C dx fs) ∧ ((∃ b dy gs, y = .ref b ∧ H b = some (.ins C dy gs)) ∨ ∃ T, TyB K H y T ∧ T ∈ knownTy) ∧
  sp [x, y] H (fun z H' => ∃ r : Bool, z = .bl r ∧ Q (.bl (if neg = true then !r else r)) H') E0
theorem op_cmpI {C f : Addr} {k : Nat} {fd : FuncData} {sp : Sp} {n1 n2 : Str} {neg : Bool} (EC : EqCls X.K C) (M : Meth X.K C "__eq__" f) (G : FnX X.prog X.w X.K X.mg X.base k f fd [n1, n2] sp) (hb : Binds X.K fd [n1, n2] []) (hr : Room (k + 1) X.A) (hgd : X.A.guards = some []) :
    OpR X (compareOp (if neg = true then .NotEq else .Eq)) (rCmpI X.K C sp neg) := by
  rintro pins s σ H x y v u Q I rx ry ⟨a, dx, fs, rfl, ha, hy, q⟩
  cases rx
  obtain ⟨mA, O, _⟩ := ins_get I.hok ha
  obtain ⟨od, J, _⟩ := O.look
  obtain ⟨m, hF⟩ := I.fr
  have hl : ∃ tb, PySem.W.Looks (model X.prog X.w) s.heap (typeOf u) tb ∧ PySem.W.notFirst X.K C tb = true := by
    rcases hy with ⟨b, dy, gs, rfl, hb'⟩ | ⟨T, t, hT⟩
    · cases ry
      obtain ⟨mB, O', _⟩ := ins_get I.hok hb'
      obtain ⟨od', J', _⟩ := O'.look
      exact ⟨_, J'.type, by simp [PySem.W.notFirst]⟩
    · exact ⟨_, looks_is (t.is I ry), by unfold PySem.W.notFirst; rw [EC.ty T hT]; simp⟩
  obtain ⟨tb, hb1, hb2⟩ := hl
  cases neg with
  | false =>
    show wpAny (model X.prog X.w) X.A (richCompare .Eq (.ref a) u) (EP X pins σ Q) X.xe s
    refine PySem.W.cmp_K (op := .Eq) (tb := tb) hr.units0 hF I.ok.mod.kin J hb1 hb2 M.at_ M.fn (wpAny_mono (run_own2 G hb (hr.mono (by omega)) hgd I.env0 I ry q) (fun w s' z => ?_) fun _ _ x => x)
    obtain ⟨z', H', I', rz, r, rfl, qz⟩ := z
    cases rz
    exact ⟨.bl r, H', I', rfl, qz⟩
  | true =>
    show wpAny (model X.prog X.w) X.A (richCompare .NotEq (.ref a) u) (EP X pins σ Q) X.xe s
    refine neK (tb := tb) hr.units0 (Room.in1 hr).units0 hF I.ok.mod.kin J hb1 hb2 EC.ne M.at_ M.fn EC.ob (wpAny_mono (run_own2 G hb (Room.in1 hr) hgd I.env0.in1 I ry q) (fun w s' z => ?_) fun _ _ x => x)
    obtain ⟨z', H', I', rz, r, rfl, qz⟩ := z
    cases rz
    exact ⟨r, rfl, .bl (!r), H', I', rfl, qz⟩
/-- a == b, of an instance a with an own == -/
def cCmpI (C : Addr) (Fd : DCallY Sy) (neg : Bool) (ta tb : TDY Sy) : TDY Sy := fun τ ρ q x => ta τ ρ (fun τ1 dx => tb τ1 ρ (fun τ2 dy => ∃ a dxx fs, dx = .ptr a ∧ sget τ2 a = some (.ins C dxx fs) ∧ ((∃ b dyy gs, dy = .ptr b ∧ sget τ2 b = some (.ins C dyy gs)) ∨ isObjD dy = true) ∧
  Fd [dx, dy] τ2 (fun τ' d => ∃ r : Bool, d = .bl r ∧ q τ' (.bl (if neg = true then !r else r))) (fun _ _ => False)) x) x
theorem c_cmpI_ok {C : Addr} {Fd : DCallY Sy} {neg : Bool} {ta tb : TDY Sy} : ∀ σ H Q, tDY X.K (SF X.K R0 h0) W (cCmpI C Fd neg ta tb) σ H Q → tOp (rCmpI X.K C (spY X.K (SF X.K R0 h0) Fd) neg) (tDY X.K (SF X.K R0 h0) W ta) (tDY X.K (SF X.K R0 h0) W tb) σ H Q := by
  rintro σ H Q ⟨τ, ρ, q, x, r, s, w, f, g⟩
  refine ⟨τ, ρ, _, x, r, s, w, fun τ1 dx v H1 w1 r1 e1 s1 => ?_, g⟩
  refine ⟨τ1, ρ, _, x, r.step e1, s1, w1, fun τ2 dy u H2 w2 r2 e2 s2 => ?_, fun C τ' H' hx e2 s2 => g C τ' H' hx (e1.trans e2) s2⟩
  obtain ⟨a, dxx, fs, rfl, ga, hy, w3⟩ := w2
  have r1' := Rep.step e2 r1
  have st : Step (SF X.K R0 h0) τ H τ2 H2 := e1.trans e2
  obtain ⟨gs, hh, ra⟩ := symAt H2 s2 a _ ga
  refine ⟨a, dxx, gs, by cases r1'; rfl, hh, ?_, ?_⟩
  · rcases hy with ⟨b, dyy, hs, rfl, gb⟩ | hy
    · obtain ⟨us, hh2, _⟩ := symAt H2 s2 b _ gb
      cases r2
      exact .inl ⟨b, dyy, us, rfl, hh2⟩
    · exact .inr ⟨_, rep_tyB r2 hy, kind_known dy hy⟩
  · refine spY_ok (E := E0) (τ1 := τ2) (H1 := H2) st (q := fun τ' d => ∃ r : Bool, d = .bl r ∧ q τ' (.bl (if neg = true then !r else r))) (x := fun _ _ => False) (fun τ' d v H' ⟨r, hr, w'⟩ r' e' s' => ?_) (fun _ _ _ z _ _ => z.elim) (.cons (by cases r1'; exact .ptr a) (.cons r2 .nil)) s2 w3
    subst hr
    cases r'
    exact ⟨r, rfl, f τ' _ _ H' w' (.bl _) e' s'⟩
theorem c_cmpEq {a b : Expr} {C : Addr} {k : Nat} {Fd : DCallY Sy} {ta tb : TDY Sy} {n1 n2 : Str} (EC : EqCls X.K C) (G : MethX X.prog X.w X.K X.mg X.base C "__eq__" [n1, n2] k (spY X.K (SF X.K R0 h0) Fd)) (hr : Room (k + 1) X.A) (hgd : X.A.guards = some []) (ha : YC X (SF X.K R0 h0) W a ta) (hb : YC X (SF X.K R0 h0) W b tb)
    (hm : behindInMarks .Eq b = false := by first | exact nomark _ | rfl) : YC X (SF X.K R0 h0) W (.Compare a [.Eq] [b] pos) (cCmpI C Fd false ta tb) := by
  obtain ⟨f, fd, G, M, hbd⟩ := G.ex
  exact PE_imp (pe_cmpR (op_cmpI (neg := false) EC M G hbd hr hgd) ha hb hm) c_cmpI_ok
theorem c_cmpNe {a b : Expr} {C : Addr} {k : Nat} {Fd : DCallY Sy} {ta tb : TDY Sy} {n1 n2 : Str} (EC : EqCls X.K C) (G : MethX X.prog X.w X.K X.mg X.base C "__eq__" [n1, n2] k (spY X.K (SF X.K R0 h0) Fd)) (hr : Room (k + 1) X.A) (hgd : X.A.guards = some []) (ha : YC X (SF X.K R0 h0) W a ta) (hb : YC X (SF X.K R0 h0) W b tb)
    (hm : behindInMarks .NotEq b = false := by first | exact nomark _ | rfl) : YC X (SF X.K R0 h0) W (.Compare a [.NotEq] [b] pos) (cCmpI C Fd true ta tb) := by
  obtain ⟨f, fd, G, M, hbd⟩ := G.ex
  exact PE_imp (pe_cmpR (op_cmpI (neg := true) EC M G hbd hr hgd) ha hb hm) c_cmpI_ok
end
end Dl

set_option Elab.async false
set_option linter.all false
set_option maxRecDepth 100000
set_option maxHeartbeats 4000000
namespace Dl
open PySem PySem.Spec PyProof.Rows L2
/-! ## a, *b = a list; f'{x}' of an instance -/
section
variable {X : Cx} {R0 : Res} {h0 : ∀ H, R0.Ss H} {W : WX} {pos : Pos} {R : Res} {τ : Sy} {F : Fam Sy}
theorem b_cmpEq {a b : Expr} {C : Addr} {k : Nat} {Fd : DCallY Sy} {ta tb : TDY Sy} {n1 n2 : Str} (EC : EqCls X.K C) (G : MethX X.prog X.w X.K X.mg X.base C "__eq__" [n1, n2] k (spY X.K (SF X.K R0 h0) Fd)) (hr : Room (k + 1) X.A) (hgd : X.A.guards = some []) (ha : YC X (SF X.K R0 h0) W a ta) (hb : YC X (SF X.K R0 h0) W b tb)
    (hm : behindInMarks .Eq b = false := by first | exact nomark _ | rfl) : YTC X (SF X.K R0 h0) W (.Compare a [.Eq] [b] pos) (bT (cCmpI C Fd false ta tb)) := by
  obtain ⟨f, fd, G, M, hbd⟩ := G.ex
  exact PT_imp (pt_cmpR (op_cmpI (neg := false) EC M G hbd hr hgd) ha hb hm) fun σ H Q w => c_cmpI_ok σ H _ (b_fin w)
theorem b_cmpNe {a b : Expr} {C : Addr} {k : Nat} {Fd : DCallY Sy} {ta tb : TDY Sy} {n1 n2 : Str} (EC : EqCls X.K C) (G : MethX X.prog X.w X.K X.mg X.base C "__eq__" [n1, n2] k (spY X.K (SF X.K R0 h0) Fd)) (hr : Room (k + 1) X.A) (hgd : X.A.guards = some []) (ha : YC X (SF X.K R0 h0) W a ta) (hb : YC X (SF X.K R0 h0) W b tb)
    (hm : behindInMarks .NotEq b = false := by first | exact nomark _ | rfl) : YTC X (SF X.K R0 h0) W (.Compare a [.NotEq] [b] pos) (bT (cCmpI C Fd true ta tb)) := by
  obtain ⟨f, fd, G, M, hbd⟩ := G.ex
  exact PT_imp (pt_cmpR (op_cmpI (neg := true) EC M G hbd hr hgd) ha hb hm) fun σ H Q w => c_cmpI_ok σ H _ (b_fin w)
/-! ### f'{x}' -/
structure FmtCls (K : PySem.W.Frag) (C : Addr) : Prop where
  fm : PySem.W.findIn K (.ref C) "__format__" = some (some (.builtin "object.__format__"))
  mro : PySem.W.mroIn K C (.type "object") = some true
theorem pe_fmtI {C f : Addr} {k : Nat} {fd : FuncData} {sp : Sp} {e : Expr} {te : TE} (FC : FmtCls X.K C) (M : Meth X.K C "__str__" f) (G : FnX X.prog X.w X.K X.mg X.base k f fd ["self"] sp) (hb : Binds X.K fd ["self"] []) (hr : Room (k + 1) X.A) (hgd : X.A.guards = some []) (he : PE X e te) :
    PE X (.FormattedValue e (-1) none pos) (fun σ H Q => te σ H fun x H1 => rStrI "__str__" C sp [x] H1 Q) := by
  refine ⟨fun pins s σ H Q I h => ?_⟩
  refine wpAny_FormattedValue_plain (thn (he.run pins s σ H _ I h) fun v s1 hv => ?_)
  obtain ⟨x, H1, I1, r1, a, dx, fs, e1, ha, q⟩ := hv
  cases e1
  cases (show v = Value.ref a from r1)
  obtain ⟨mA, O, _⟩ := ins_get I1.hok ha
  obtain ⟨od, J, _⟩ := O.look
  refine PySem.W.kfo_fieldS (Room.in1 hr).units0 I1.kIn J FC.fm FC.mro M.at_ M.fn (wpAny_mono (run_own (s := { s1 with toks := s1.toks + 1 }) G hb (Room.in1 hr) hgd (I1.tok _).env0.in1 (I1.tok _) q) (fun w s' z => ?_) fun _ _ x => x)
  obtain ⟨z', H', I', rz, n, rfl, qz⟩ := z
  obtain ⟨t, rfl⟩ := (show ∃ t, w = Value.str n t from rz)
  exact ⟨.str n, H', I', ⟨_, rfl⟩, qz⟩
theorem c_fmtI {C : Addr} {k : Nat} {e : Expr} {p1 : Pos} {Fd : DCallY Sy} {to : Sy → TDE} (FC : FmtCls X.K C) (he : ∀ τ, EE X ((SF X.K R0 h0).at τ) e (to τ)) (G : MethX X.prog X.w X.K X.mg X.base C "__str__" ["self"] k (spY X.K (SF X.K R0 h0) Fd)) (hr : Room (k + 1) X.A) (hgd : X.A.guards = some []) :
    YC X (SF X.K R0 h0) W (.JoinedStr [.FormattedValue e (-1) none p1] pos) (cOwn C Fd to strP') := by
  obtain ⟨f, fd, G, M, hb⟩ := G.ex
  refine PE_imp (pe_joined1 (pe_fmtI FC M G hb hr hgd (y_all he))) fun σ H Q h => ?_
  refine own_fin (r := rStrI "__str__" C (spY X.K (SF X.K R0 h0) Fd)) (fun a dx gs H1 hh q => ⟨a, dx, gs, rfl, hh, ?_⟩) h
  obtain ⟨ds, τ, q, x, a1, a2, a3, a4, a5⟩ := q
  refine ⟨ds, τ, q, x, a1, a2, a3, fun τ' d v H' w r e s => ?_, a5⟩
  obtain ⟨d', p, ⟨n, rfl⟩, rv, q'⟩ := a4 τ' d v H' w r e s
  cases rv
  exact ⟨n, rfl, q'⟩
/-! ### a, *b = a list -/
def gStar (n : Nat) (t : TGs) : TG := fun v σ H Q => ∃ a xs, v = .ref a ∧ H a = some (.lst xs) ∧ n ≤ xs.length ∧ xs.length ≤ 16384 ∧ ∀ D, H D = none → D ≠ sysModules → t (xs.take n ++ [.ref D]) σ (upd H D (.lst (xs.drop n))) Q
theorem pg_star {es : List Expr} {k : Nat} {t : TGs} {n : Nat} (hc : X.calm = true) (h : PGs X es t) (hn : (assignEach es X.env).length = n + 1 := by rfl) (hst : (assignEach es X.env).findIdx? (·.1) = some n := by rfl) : PG X (.Tuple es k pos) (gStar n t) := by
  refine ⟨fun pins s σ H v u Q I r hw => ?_⟩
  obtain ⟨a, xs, rfl, ha, hle, h16, hw⟩ := hw
  cases r
  obtain ⟨z, its, nn, rv, e⟩ := I.hok a _ ha
  have hl : s.heap.IsList a its.toArray := ⟨_, e, rfl, nn, rfl⟩
  have hlen : its.toArray.size = xs.length := by rw [List.size_toArray, rv.length]
  have hlt : a < s.heap.objs.size := Heap.lt_size e
  have hne : a ≠ s.heap.objs.size := Nat.ne_of_lt hlt
  rw [assign_Tuple]
  refine wpAny_bind (wpAny_standAt ?_)
  unfold unpack
  rw [hn, hst]
  refine wpAny_bind (wpAny_holding ?_)
  unfold unpackItems
  refine wpAny_bind ?_
  unfold notIterableAtAll
  refine wpAny_bind (wpAny_specialOf hl.typeIs slot_list_iter.lookup ?_)
  refine wpAny_pure ?_
  simp only [Bool.false_eq_true, if_false]
  refine wpAny_bind (wpAny_holding (wpAny_pyIter_list hl ?_))
  refine wpAny_bind (wpAny_holding (PySem.W.kun_draw hne n 0 _ _ ⟨_, Heap.get?_push_size _ rfl, rfl, rfl⟩ (hl.push _) (by omega) fun h₁ hit₁ hs₁ => ?_))
  have hl₁ : h₁.IsList a its.toArray := (hl.push _).extBut hs₁.extBut hne
  rw [Nat.zero_add] at hit₁
  have hit₁' := hit₁
  obtain ⟨oi, hoi, _⟩ := hit₁'
  have hl₁' := hl₁
  obtain ⟨ol, hol, _⟩ := hl₁'
  rw [List.drop_zero]
  have hfl : (its.toArray.toList.take n).length = n := by rw [List.length_take, Array.length_toList]; omega
  rw [if_neg (show ¬ ((its.toArray.toList.take n).length < n) by rw [hfl]; omega)]
  refine wpAny_bind (wpAny_holding (PySem.W.kun_collect (s := { s with heap := h₁ }) (T := "list_iterator") (.inr (.inr (.inl rfl))) (Walks.list (A := X.A.in1) (I.ok.hd hc) s.heap.objs.size a hne its.toArray) (fun j u st => st.1.typeIs) (k := n) (by omega) ⟨hit₁, hl₁⟩ (Heap.lt_size hoi) (Heap.lt_size hol) (fun h₂ tk hk => ?_) (by rw [sizeLine_eq]; omega)))
  have hrl : (its.toArray.toList.drop n).length = xs.length - n := by rw [List.length_drop, Array.length_toList, hlen]
  show wpAny _ _ (if (its.toArray.toList.drop n).length < n + 1 - 1 - n then _ else _) _ _ _
  rw [if_neg (by omega)]
  show wpAny _ _ (newList ((its.toArray.toList.drop n).take ((its.toArray.toList.drop n).length - (n + 1 - 1 - n))) >>= fun d => pure (its.toArray.toList.take n ++ [d] ++ (its.toArray.toList.drop n).drop ((its.toArray.toList.drop n).length - (n + 1 - 1 - n)))) _ _ _
  have e0 : (its.toArray.toList.drop n).length - (n + 1 - 1 - n) = (its.toArray.toList.drop n).length := by omega
  rw [e0, List.take_length, List.drop_length]
  have kp : ∀ b o, s.heap.get? b = some o → h₂.get? b = some o := fun b o eb => by
    have hb : b ≠ s.heap.objs.size := Nat.ne_of_lt (Heap.lt_size eb)
    exact hk b o hb (hs₁.extBut b o hb (Heap.get?_push_of_some _ eb))
  have I2 : Inv X pins σ H { s with heap := h₂, toks := tk } := I.kept kp
  refine wpAny_bind (wpAny_newList ?_ (by rw [hrl, sizeLine_eq]; omega))
  refine wpAny_pure ?_
  rw [List.append_nil]
  have rd : Vals (xs.drop n) (its.drop n) := rv.drop n
  have hfr : H h₂.objs.size = none := I2.hok.fresh (Nat.le_refl _)
  have I3 : Inv X pins σ (upd H h₂.objs.size (.lst (xs.drop n))) { s with heap := h₂.push (seqObj "list" (its.drop n).toArray 0), toks := tk } :=
    I2.laid (t' := tk) (fun b u eb => Heap.get?_push_of_some _ eb) (Nat.le_refl _)
      (show ObjOk X.prog X.w _ _ _ (.lst (xs.drop n)) from ⟨by rw [List.length_drop, sizeLine_eq]; omega, its.drop n, 0, rd, Heap.get?_push_size _ rfl⟩)
  exact h.run pins _ σ _ _ _ Q I3 (Vals.append (rv.take n) (.cons (show RelV (.ref h₂.objs.size) _ from rfl) .nil)) (hw _ hfr (Nat.ne_of_gt (Nat.lt_of_lt_of_le (Nat.lt_trans (by decide) I2.env0.mod.glob.lt) I2.env0.bsz)))
theorem pgs_cons_star {e : Expr} {es : List Expr} {t : TG} {u : TGs} {p : Pos} (h1 : PG X e t) (h2 : PGs X es u)
    (hs : (assignEach (.Starred e p :: es) X.env).map (·.2) = assign e X.env :: (assignEach es X.env).map (·.2) := by rfl) : PGs X (.Starred e p :: es) (gCons t u) := by
  refine ⟨fun pins s σ H vs us Q I r h => ?_⟩
  obtain ⟨v, vr, e1, h⟩ := h
  subst e1
  cases r with
  | cons r rr =>
    rw [hs]
    refine assignInOrder_cons (thn (h1.run pins s σ H _ _ _ I r h) fun _ s1 ⟨σ1, H1, I1, q1⟩ => ?_)
    exact h2.run pins s1 σ1 H1 _ _ Q I1 rr q1
/-- a, *b = a list, over a state -/
def yStar (i j : Nat) (t : TDY Sy) : TDSS Sy := fun e τ ρ => t τ ρ (fun τ1 d => ∃ d0 ds, (d = .lst (d0 :: ds) ∨ d = .seq (d0 :: ds)) ∧ ds.length ≤ 16000 ∧ e.nx τ1 ((ρ.set i (some d0)).set j (some (.lst ds)))) (fun C τ' => e.xc C τ' ρ)
theorem y_star {i j : Nat} {es : List Expr} {e : Expr} {t : TDY Sy} {k : Nat} {tp : Pos} (hc : X.calm = true) (hg : PGs X es (gNames [i, j])) (he : YC X F W e t) (hn : (assignEach es X.env).length = 2 := by rfl) (hst : (assignEach es X.env).findIdx? (·.1) = some 1 := by rfl)
    (hs : swapsWithSole [.Tuple es k tp] e pos.line X.env = pure false := by rfl) (hw : swappedStores [.Tuple es k tp] e X.env = pure none := by rfl)
    (h1 : (assignEach [.Tuple es k tp] X.env).map (·.2) = [assign (.Tuple es k tp) X.env] := by rfl) : YS X F W (.Assign [.Tuple es k tp] e pos) (yStar i j t) :=
  PS_imp (ps_asg he (pg_star (n := 1) hc hg hn hst) hs hw h1) fun E σ H ⟨τ, ρ, en, r, s, w, f⟩ => by
    refine ⟨τ, ρ, _, _, r, s, w, ?_, fun C τ' H' hx e2 s2 => f.xc C τ' ρ σ H' hx (r.step e2) e2 s2⟩
    rintro τ1 d v H1 ⟨d0, ds, hd, hl, w1⟩ r1 e1 s1
    obtain ⟨a, xs, rfl, ha, ra⟩ : ∃ a xs, v = .ref a ∧ H1 a = some (.lst xs) ∧ RepAll X.K (F.av τ1) H1 xs (d0 :: ds) := by
      rcases hd with rfl | rfl
      · cases r1 with
        | lst h n z ra => exact ⟨_, _, rfl, h, ra⟩
      · cases r1 with
        | seq h n ra => exact ⟨_, _, rfl, h, ra⟩
    cases ra with
    | @cons v0 vs _ _ r0 ra =>
      refine ⟨a, _, rfl, ha, by simp, by rw [List.length_cons, ra.length]; omega, fun D n hD => ?_⟩
      have o1 : Pot (F.at τ1) H1 := s1
      have rl : Rep X.K (F.av τ1) (upd H1 D (.lst vs)) (.ref D) (.lst ds) := new_lst (p := F.at τ1) ra n hD o1
      have st : Step F τ1 H1 τ1 (upd H1 D (.lst vs)) := .ext (Ext.new n)
      refine gNames_ok (K := X.K) (q := F.av τ1) [i, j] _ [d0, .lst ds] σ ρ _ (.cons ((show Rep X.K (F.at τ1).av H1 v0 d0 from r0).mono (Ext.new n)) (.cons rl .nil)) rfl (((r.step e1)).step st) fun σ' hr' => ?_
      exact f.nx τ1 _ σ' _ w1 hr' (e1.trans st) (o1.new n)
end
end Dl

set_option Elab.async false
set_option linter.all false
set_option maxRecDepth 100000
set_option maxHeartbeats 4000000
namespace Dl
open PySem PySem.Spec PyProof.Rows L2
/-! ## == of lists of the state, at any depth -/
mutual
def D.eqp : D → Bool
  | .non => true | .bl _ => true | .int _ => true | .str _ => true | .tup xs => D.eqps xs | .lst xs => D.eqps xs | .emp => false
  | .ptr _ => false | .seq _ => false | .ty _ => false
def D.eqps : List D → Bool
  | [] => true
  | x :: xs => D.eqp x && D.eqps xs
end
mutual
theorem rep_dpE {K : PySem.W.Frag} {p : List Addr} {H : Hp} : ∀ {v : V} {d : D}, Rep K p H v d → D.eqp d = true → Dp K H v d.py
  | _, _, .non, _ => by simp only [D.py]; exact .non
  | _, _, .bl b, _ => by simp only [D.py]; exact .bl b
  | _, _, .int i, _ => by simp only [D.py]; exact .int i
  | _, _, .str x, _ => by simp only [D.py]; exact .str x
  | _, _, .tup g r, h => by simp only [D.py]; exact .tup g.sq (rep_dpsE r (by simpa only [D.eqp] using h))
  | _, _, .lst g _ _ r, h => by simp only [D.py]; exact .lst (.of g) (rep_dpsE r (by simpa only [D.eqp] using h))
theorem rep_dpsE {K : PySem.W.Frag} {p : List Addr} {H : Hp} : ∀ {vs : List V} {ds : List D}, RepAll K p H vs ds → D.eqps ds = true → DpAll K H vs (D.pys ds)
  | _, _, .nil, _ => by simp only [D.pys]; exact .nil
  | _, _, .cons r t, h => by
    simp only [D.eqps, Bool.and_eq_true] at h
    simp only [D.pys]
    exact .cons (rep_dpE r h.1) (rep_dpsE t h.2)
end
theorem strOk_of_asc {x : Str} (h : x.cps.toList.all (fun c => decide (c < 128)) = true) : PyData.strOk x = true := by
  unfold PyData.strOk
  rw [← Array.all_toList, List.all_eq_true]
  intro c hc
  have := of_decide_eq_true (List.all_eq_true.mp h c hc)
  exact decide_eq_true (by omega)
mutual
theorem py_lay : ∀ d : D, d.plain = true → d.eqp = true → d.py.canLay0 = true
  | .non, _, _ => by simp only [D.py, PyData.canLay0]
  | .bl _, _, _ => by simp only [D.py, PyData.canLay0]
  | .int _, _, _ => by simp only [D.py, PyData.canLay0]
  | .str x, h, _ => by simp only [D.py, PyData.canLay0]; exact strOk_of_asc (by simpa only [D.plain] using h)
  | .tup xs, h, e => by simp only [D.py, PyData.canLay0]; exact pys_lay xs (by simpa only [D.plain] using h) (by simpa only [D.eqp] using e)
  | .lst xs, h, e => by simp only [D.py, PyData.canLay0]; exact pys_lay xs (by simpa only [D.plain] using h) (by simpa only [D.eqp] using e)
  | .emp, _, e => by simp only [D.eqp] at e; cases e
  | .ptr _, _, e => by simp only [D.eqp] at e; cases e
  | .seq _, _, e => by simp only [D.eqp] at e; cases e
  | .ty _, _, e => by simp only [D.eqp] at e; cases e
theorem pys_lay : ∀ ds : List D, D.plains ds = true → D.eqps ds = true → PyData.canLayAll0 (D.pys ds) = true
  | [], _, _ => by simp only [D.pys, PyData.canLayAll0]
  | d :: ds, h, e => by
    simp only [D.plains, Bool.and_eq_true] at h
    simp only [D.eqps, Bool.and_eq_true] at e
    simp only [D.pys, PyData.canLayAll0, Bool.and_eq_true]
    exact ⟨py_lay d h.1 e.1, pys_lay ds h.2 e.2⟩
end
theorem shaped_ls {xs : List D} (h1 : D.plains xs = true) (h2 : D.eqps xs = true) (h3 : D.dps xs ≤ 60) : SeqAt.shaped (.list (D.pys xs)) = true := by
  unfold SeqAt.shaped
  rw [Bool.and_eq_true, decide_eq_true_eq]
  refine ⟨by simp only [PyData.canLay0]; exact pys_lay xs h1 h2, ?_⟩
  simp only [PyData.depth]
  rw [pys_depth xs h1]
  omega
theorem eqv_ls {xs : List D} (h1 : D.plains xs = true) (h2 : D.eqps xs = true) : PyData.eqv (.list (D.pys xs)) (.list (D.pys xs)) = true := SeqAt.eqv_refl _ (by simp only [PyData.canLay0]; exact pys_lay xs h1 h2)
section
variable {X : Cx} {R0 : Res} {h0 : ∀ H, R0.Ss H} {W : WX} {pos : Pos} {R : Res} {τ : Sy} {F : Fam Sy}
def eqLL (τ : Sy) (neg : Bool) : DOp := fun dx dy q => ∃ a xs b ys, dx = .ptr a ∧ sget τ a = some (.lst xs) ∧ dy = .ptr b ∧ sget τ b = some (.lst ys) ∧ D.eqps xs = true ∧ D.eqps ys = true ∧ SeqAt.shaped (.list (D.pys xs)) = true ∧ SeqAt.shaped (.list (D.pys ys)) = true ∧
  q (.bl (if neg then !PyData.eqv (.list (D.pys xs)) (.list (D.pys ys)) else PyData.eqv (.list (D.pys xs)) (.list (D.pys ys))))
theorem opd_eqLL (S : SymAt X.K τ R) : OpD X.K R (rEqD X.K) (eqLL τ false) := by
  rintro x y dx dy H q Q rx ry o ⟨a, xs, b, ys, rfl, g, rfl, g', f1, f2, s1, s2, w⟩ f
  cases rx; cases ry
  obtain ⟨vs, hh, ra⟩ := S H o a _ g
  obtain ⟨us, hh', rb⟩ := S H o b _ g'
  exact ⟨_, _, .lst (.of hh) (rep_dpsE ra f1), .lst (.of hh') (rep_dpsE rb f2), s1, s2, f _ _ H w (.bl _) (Ext.refl _ _) o⟩
theorem opd_neLL (S : SymAt X.K τ R) : OpD X.K R (rNeD X.K) (eqLL τ true) := by
  rintro x y dx dy H q Q rx ry o ⟨a, xs, b, ys, rfl, g, rfl, g', f1, f2, s1, s2, w⟩ f
  cases rx; cases ry
  obtain ⟨vs, hh, ra⟩ := S H o a _ g
  obtain ⟨us, hh', rb⟩ := S H o b _ g'
  exact ⟨_, _, .lst (.of hh) (rep_dpsE ra f1), .lst (.of hh') (rep_dpsE rb f2), s1, s2, f _ _ H w (.bl _) (Ext.refl _ _) o⟩
end
end Dl
namespace Dl
open PySem PySem.Spec PyProof.Rows L2
/-! ## a def that only changes what it makes: one of data -/
def Res.lone (R : Res) : Res where
  p := R.p
  n := []
  Sp := fun H => R.Sp H ∧ ∀ b ∈ R.p, H b ≠ Option.none
  Ss := fun _ => True
  nin := fun H a h _ n m => by
    rw [List.append_nil] at m
    exact h.2 a m n
  dep := fun H H' e h => ⟨R.dep H H' e h.1, fun b m => by rw [e b m]; exact h.2 b m⟩
  mono := fun _ _ _ _ => trivial
theorem rep_flat {K : PySem.W.Frag} {p p' : List Addr} {H : Hp} {v : V} {d : D} (h : flatD d = true) (r : Rep K p H v d) : Rep K p' H v d := by
  cases r <;> first | (cases h; done) | skip
  · exact .non
  · exact .bl _
  · exact .int _
  · exact .str _
theorem pureY {P : Program} {w : World} {K : PySem.W.Frag} {mg : Str → Option Value} {base : Heap} {k : Nat} {f : Addr} {fd : FuncData} {ps : List Str} {Fd : DCallY Sy} {Fp : DCall} {R : Res} (G : ∀ (R0 : Res) (h0 : ∀ H, R0.Ss H), FnX P w K mg base k f fd ps (spY K (symF K R0 h0) Fd))
    (hl : ∀ ds q, Fp ds q → ds.length = ps.length) (hF : ∀ ds q, Fp ds q → Fd ds [] (fun _ d => flatD d = true ∧ q d) (fun _ _ => False)) : FnG P w K mg base k f fd ps (spD K R Fp) := by
  refine ⟨fun vs H Q E ⟨ds, q, r, _, w, _⟩ => by rw [r.length]; exact hl ds q w, fun A outer s H args us vs Q E hr hg e0 hb rv ⟨ds, q, ra, o, w, fi⟩ => ?_⟩
  have oS : (symF K R.lone fun _ => trivial).S [] H := ⟨⟨o.1, fun b m n => Pot.nin (R := R) o n (List.mem_append_left _ m)⟩, fun a so g => by cases g⟩
  refine codeAny_mono ((G R.lone fun _ => trivial).run A outer s H args us vs Q (fun _ _ _ => False) hr hg e0 hb rv ⟨ds, [], _, _, RepAll.weak (fun b m => ?_) ra, oS, hF ds q w, ?_, fun _ _ _ z _ _ => z.elim⟩) fun r s' hq => ?_
  · have m : b ∈ R.p ++ ([] ++ []) := m
    rw [List.append_nil, List.append_nil] at m
    exact List.mem_append_left _ m
  · rintro τ' d v H' ⟨hd, w'⟩ r' e' s'
    have ex : Ext R.p H H' := fun b u nb hb => e'.keep b u (fun m => nb (by
      have m : b ∈ R.p ++ ([] ++ []) := m
      rw [List.append_nil, List.append_nil] at m
      exact m)) hb
    exact fi d v H' w' (rep_flat hd r') ex ⟨s'.1.1, R.mono H H' ex o.2⟩
  · cases r with
    | error e =>
      obtain ⟨a, B, H', cls, d, ea, fl, hok, ub, na, os, ag, he⟩ := hq
      exact he.elim
    | ok fl => cases fl <;> exact hq
end Dl
namespace Dl
open PySem PySem.Spec PyProof.Rows L2
section
variable {X : Cx} {R0 : Res} {h0 : ∀ H, R0.Ss H} {W : WX} {pos : Pos} {R : Res} {τ : Sy} {F : Fam Sy}
/-! ## for i, x in enumerate(a list) -/
def yForE (is : List Nat) (t : TDY Sy) (tb : TDSS Sy) : TDSS Sy := fun e τ ρ => t τ ρ (fun τ1 d => ∃ ds : List D, (d = .lst ds ∨ d = .seq ds) ∧ ∃ Iv : Nat → Sy → DE → Prop, Iv 0 τ1 ρ ∧
  (∀ (j : Nat) (d' : D) τ' ρ', ds[j]? = some d' → Iv j τ' ρ' → tb ⟨Iv (j + 1), e.rt, e.xc⟩ τ' (setAll is [.int (j : Nat), d'] ρ')) ∧ ∀ τ' ρ', Iv ds.length τ' ρ' → e.nx τ' ρ') (fun C τ' => e.xc C τ' ρ)
theorem y_forEnum {is : List Nat} {es : List Expr} {kk : Nat} {tp p cpos : Pos} {le : Expr} {body : List Stmt} {t : TDY Sy} {tb : TDSS Sy} (hm : X.mg "enumerate" = none) (hp : PassesOwn (model X.prog X.w) X.A X.env X.xe) (hc : X.calm = true) (hi : YC X F W le t) (hg : PGs X es (gNames is)) (hb : YSs X F W body tb) (h2 : is.length = 2 := by rfl)
    (hgl : Gl X "enumerate" := by rfl) (hst1 : starEach [le] X.env = [(false, eval le X.env)] := by rfl) (hst2 : starEach [le] X.env = (false, eval le X.env) :: starEach [] X.env := by rfl)
    (hn : (assignEach es X.env).length = is.length := by rfl) (hst : (assignEach es X.env).findIdx? (·.1) = none := by rfl)
    (hs : ∀ x, foldedSetIterable (.Call (.Name "enumerate" p) [le] [] cpos) X.env x = pure x := by intro _; rfl) : YS X F W (.For (.Tuple es kk tp) (.Call (.Name "enumerate" p) [le] [] cpos) body [] pos) (yForE is t tb) :=
  PS_imp (ps_for hp hc (pi_enum hgl hm (pa_cons hi pa_nil hst2) hst1) (pg_tup hc hg hn hst) hb hs) fun E σ H ⟨τ, ρ, en, r, s, w, f⟩ => by
    refine ⟨τ, ρ, _, _, r, s, w, ?_, fun C τ' H' hx e2 s2 => f.xc C τ' ρ σ H' hx (r.step e2) e2 s2⟩
    rintro τ1 d v H1 ⟨ds, hd, Iv, h0, hstep, hend⟩ r1 e1 s1
    obtain ⟨a, xs, rfl, h, n, ra⟩ : ∃ a xs, v = .ref a ∧ H1 a = some (.lst xs) ∧ a ∉ F.av τ1 ∧ RepAll X.K (F.av τ1) H1 xs ds := by
      rcases hd with rfl | rfl
      · cases r1 with
        | lst h n z ra => exact ⟨_, _, rfl, h, n, ra⟩
      · cases r1 with
        | seq h n ra => exact ⟨_, _, rfl, h, n, ra⟩
    have hlen : xs.length = ds.length := ra.length
    refine ⟨a, xs, rfl, .of h, ?_⟩
    refine for_it (walk_enum (K := X.K) (a := a) (xs := xs)) (fun j σ' H' => j ≤ xs.length ∧ ∃ τ' ρ', Step F τ1 H1 τ' H' ∧ F.S τ' H' ∧ REnv X.K (F.av τ') H' σ' ρ' ∧ Iv j τ' ρ') ⟨Nat.zero_le _, τ1, ρ, .refl, s1, r.step e1, h0⟩ (fun j σ' H' _ ⟨_, τ', ρ', e2, _⟩ => .of (e2.keep' _ _ n h)) ?_ ?_
    · rintro j x σ' H' H'' hj ⟨_, τ', ρ', e2, s2, r2, iv⟩ ⟨T, z1, z2, rfl, hT, rfl, k1, k2⟩
      cases k1
      obtain ⟨d', hd', rd⟩ := (ra.steps e2).get' k2
      have o2 : Pot (F.at τ') H' := s2
      have st : Step F τ' H' τ' (upd H' T (.tup [.int (j : Nat), z2])) := .ext (Ext.new hT)
      refine ⟨T, _, rfl, .of upd_same, by rw [h2]; rfl, ?_⟩
      refine gNames_ok is _ [.int (j : Nat), d'] σ' ρ' _ (.cons (.int _) (.cons (Rep.step st rd) .nil)) (by rw [h2]; rfl) (r2.step st) fun σ2 rr => ?_
      refine ⟨τ', _, _, rr, o2.new hT, hstep j d' τ' ρ' hd' iv, ⟨fun τ3 ρ3 σ3 H3 w3 r3 e3 s3 => ?_, fun τ3 d3 v3 H3 w3 r3 e3 s3 => f.rt τ3 d3 v3 H3 w3 r3 (((e1.trans e2).trans st).trans e3) s3, fun C τ3 ρ3 σ3 H3 w3 r3 e3 s3 => f.xc C τ3 ρ3 σ3 H3 w3 r3 (((e1.trans e2).trans st).trans e3) s3⟩⟩
      exact ⟨hj, τ3, ρ3, (e2.trans st).trans e3, s3, r3, w3⟩
    · rintro σ' H' ⟨_, τ', ρ', e2, s2, r2, iv⟩
      rw [hlen] at iv
      exact f.nx τ' ρ' σ' H' (hend τ' ρ' iv) r2 (e1.trans e2) s2
end
end Dl

set_option Elab.async false
set_option linter.all false
set_option maxRecDepth 100000
set_option maxHeartbeats 4000000
namespace Dl
open PySem PySem.Spec PyProof.Rows L2
/-! ## a written dict: d.get(word, x) -/
section
variable {X : Cx} {R : Res} {pos : Pos} {d : Addr} {es : Array DictEntry} {n : Nat} {o e1 e2 : Expr} {to : TE} {t : TA} {apos cpos : Pos}
def tKGet (K : PySem.W.Frag) (d : Addr) (to : TE) (t : TA) : TE := fun σ H Q => to σ H fun x H1 => x = .ref d ∧ t σ H1 fun xs H2 => ∃ z r y, xs = [.str z, y] ∧ PySem.W.nsIn K d z = some r ∧ ((∃ u0 v0, r = some u0 ∧ RelV v0 u0 ∧ Q v0 H2) ∨ (r = none ∧ Q y H2))
theorem pe_kget (D : KDict X.K X.w d es n) (ho : PE X o to) (ha : PA X [e1, e2] t)
    (hbase : attributeBase o "get" X.env (eval o X.env) = eval o X.env := by rfl)
    (hfew : ((backTo cpos (starEach [e1, e2] X.env)).all (fun x => !x.1) && (backToKw cpos (keywordEach [] X.env)).all (fun x => x.1.isSome)
      && decide ([e1, e2].length + ([] : List Keyword).length + (if ([] : List Keyword).isEmpty then 0 else 1) < 30)) = true := by rfl)
    (hline : (apos.endLine == cpos.line) = true := by rfl) (hs : starEach [e1, e2] X.env = (false, eval e1 X.env) :: starEach [e2] X.env := by rfl) (hplain : (backTo cpos (starEach [e2] X.env)).any (·.1) = false := by rfl) :
    PE X (.Call (.Attribute o "get" apos) [e1, e2] [] cpos) (tKGet X.K d to t) := by
  refine ⟨fun pins s σ H Q I h => ?_⟩
  refine wpAny_Call_method_late hbase hfew hline rfl (thn (ho.run pins s σ H _ I h) fun v s1 ⟨x, H1, I1, r1, ex, q1⟩ => ?_)
  subst ex
  cases r1
  refine ⟨"dict", "dict.get", PySem.F.plainAttrs_dict, PySem.F.slot_dict_get, PySem.F.type_dict_get, kd_type D I1, fun a e => ?_, ?_⟩
  · cases e
    exact ⟨_, I1.kIn _ _ D.at_, rfl⟩
  have hA := ha.run cpos pins s1 σ H1 _ I1 q1
  rw [hs] at hA ⊢
  refine Calls.callWith_builtin (by show (false || (backTo cpos (starEach [e2] X.env)).any (·.1)) = false; rw [hplain] <;> rfl) (Calls.evalArgs_plain ?_)
  refine thn hA fun us s2 ⟨vs, H2, I2, r2, z, r, y, ev, hr, q2⟩ => ?_
  subst ev
  obtain ⟨u, w, rfl, ru, rw'⟩ := vals2 r2
  obtain ⟨tk, rfl⟩ := ru
  have hm := PySem.W.mapOf_K (prog := X.prog) (w := X.w) I2.kIn D.at_ D.lit
  refine call_meetsIn PySem.F.slot_dict_get hm.typeIs PySem.F.entry_dict_get (PySem.F.args_dict_get_3 _ _ _) (meets_dict_get_default _ d (PySem.strKind_is X.prog X.w z tk) D.low w) ⟨_, hm, ?_⟩
  rw [PySem.W.find_K D.at_ hr]
  rcases q2 with ⟨u0, v0, rfl, rv, q⟩ | ⟨rfl, q⟩
  · exact ⟨v0, H2, I2.tok _, rv, q⟩
  · exact ⟨y, H2, I2.tok _, rw', q⟩
/-- .. of whole numbers: what stands at a word, or the default -/
def vKGet (g : Str → Option Int) (ta : TDA) : TDE := fun ρ q => ta ρ fun ds => ∃ z i, ds = [.str z, .int i] ∧ q (.int ((g z).getD i))
theorem d_kget {g : Str → Option Int} {x : Str} {p0 : Pos} {ta : TDA} (D : ∃ es n, KDict X.K X.w d es n) (hv : ∀ z, ∃ r, PySem.W.nsIn X.K d z = some r ∧ (match g z with | some i => ∃ t, r = some (.int i t) | none => r = none)) (hm : X.mg x = some (.ref d)) (ha : EA X R [e1, e2] ta) (hgl : Gl X x := by rfl) (hdb : (x == ("__debug__" : Str)) = false := by decide)
    (hbase : attributeBase (.Name x p0) "get" X.env (eval (.Name x p0) X.env) = eval (.Name x p0) X.env := by rfl)
    (hfew : ((backTo cpos (starEach [e1, e2] X.env)).all (fun x => !x.1) && (backToKw cpos (keywordEach [] X.env)).all (fun x => x.1.isSome)
      && decide ([e1, e2].length + ([] : List Keyword).length + (if ([] : List Keyword).isEmpty then 0 else 1) < 30)) = true := by rfl)
    (hline : (apos.endLine == cpos.line) = true := by rfl) (hs : starEach [e1, e2] X.env = (false, eval e1 X.env) :: starEach [e2] X.env := by rfl) (hplain : (backTo cpos (starEach [e2] X.env)).any (·.1) = false := by rfl) :
    EE X R (.Call (.Attribute (.Name x p0) "get" apos) [e1, e2] [] cpos) (vKGet g ta) := by
  obtain ⟨es, n, D⟩ := D
  refine PE_imp (pe_kget D (pe_glob (v := .ref d) hgl hm rfl hdb) ha hbase hfew hline hs hplain) fun σ H Q ⟨ρ, q, r, o, w, f⟩ => ?_
  refine ⟨rfl, ρ, _, r, o, w, ?_⟩
  rintro ds vs H1 ⟨z, i, rfl, w1⟩ r1 e1 o1
  cases r1 with
  | cons ra r1 =>
    cases r1 with
    | cons rb r1 =>
      cases r1
      cases ra; cases rb
      obtain ⟨rr, h1, h2⟩ := hv z
      refine ⟨z, rr, .int i, rfl, h1, ?_⟩
      cases hg : g z with
      | some j =>
        rw [hg] at h2 w1
        obtain ⟨t, rfl⟩ := h2
        exact .inl ⟨_, .int j, rfl, ⟨t, rfl⟩, f _ _ _ w1 (.int _) e1 o1⟩
      | none =>
        rw [hg] at h2 w1
        exact .inr ⟨h2, f _ _ _ w1 (.int _) e1 o1⟩
end
section
variable {X : Cx} {R0 : Res} {h0 : ∀ H, R0.Ss H} {W : WX} {pos : Pos} {R : Res} {τ : Sy}
/-- x.join(a list of the state) -/
def vJoinP (τ : Sy) (ts te : TDE) : TDE := fun ρ q => ts ρ fun d => ∃ a, d = .str a ∧ te ρ fun e => ∃ (l : Addr) (ys : List Str), e = .ptr l ∧ sget τ l = some (.lst (ys.map .str)) ∧ (ys.map (·.length)).sum + ys.length * a.length ≤ 16777216 ∧ q (.str (Txt.join a ys))
theorem d_joinP {o e : Expr} {apos pos : Pos} {ts te : TDE} (S : SymAt X.K τ R) (ho : EE X R o ts) (he : EE X R e te) (hs : starEach [e] X.env = [(false, eval e X.env)] := by rfl) (hbase : attributeBase o "join" X.env (eval o X.env) = eval o X.env := by rfl) (hline : (apos.endLine == pos.line) = true := by rfl) :
    EE X R (.Call (.Attribute o "join" apos) [e] [] pos) (vJoinP τ ts te) :=
  PE_imp (pe_join ho he hs hbase hline) fun σ H Q ⟨ρ, q, r, o, w, f⟩ => by
    refine ⟨ρ, _, r, o, w, ?_⟩
    rintro d v H1 ⟨a, rfl, w1⟩ r1 e1 o1
    cases r1
    refine ⟨⟨a, rfl⟩, ρ, _, r.mono e1, o1, w1, ?_⟩
    rintro e v H2 ⟨l, ys, rfl, g, hz, w2⟩ r2 e2 o2
    cases r2
    obtain ⟨vs, hh, ra⟩ := S H2 o2 l _ g
    have := rep_strs ra
    subst this
    exact ⟨a, _, ys, rfl, rfl, .inl (.of hh), hz, f _ _ H2 w2 (.str _) (e1.trans e2) o2⟩
/-! ### len, str of an instance that is made on the spot -/
def cOwnY (C : Addr) (Fd : DCallY Sy) (t : TDY Sy) (P : D → Prop) : TDY Sy := fun τ ρ q x => t τ ρ (fun τ1 od => ∃ a dx fs, od = .ptr a ∧ sget τ1 a = some (.ins C dx fs) ∧ Fd [.ptr a] τ1 (fun τ' d => P d ∧ q τ' d) (fun _ _ => False)) x
theorem ownY_fin {C : Addr} {Fd : DCallY Sy} {t : TDY Sy} {Pd : D → Prop} {σ : L2.St} {H : Hp} {Q : VK} {r : List V → Hp → VK → Prop} (hP : ∀ a dx gs H1, H1 a = some (.ins C dx gs) → spY X.K (SF X.K R0 h0) Fd [.ref a] H1 (fun v H2 => ∃ d p, Pd d ∧ Rep X.K p H2 v d ∧ Q v H2) E0 → r [.ref a] H1 Q) :
    tDY X.K (SF X.K R0 h0) W (cOwnY C Fd t Pd) σ H Q → tDY X.K (SF X.K R0 h0) W t σ H fun v H1 => r [v] H1 Q := by
  rintro ⟨τ, ρ, q, x, rr, sS, w, f1, g1⟩
  refine ⟨τ, ρ, _, x, rr, sS, w, ?_, g1⟩
  rintro τ1 od v H1 ⟨a, dx, fs, rfl, g, w1⟩ r1 e1 s1
  cases r1
  obtain ⟨gs, hh, ra⟩ := symAt H1 s1 a _ g
  refine hP a dx gs H1 hh ?_
  refine spY_ok (E := E0) e1 (q := fun τ' d => Pd d ∧ q τ' d) (x := fun _ _ => False) (fun τ' d v H' ⟨hp, w'⟩ r' e' s' => ⟨d, _, hp, r', f1 τ' d v H' w' r' e' s'⟩) (fun _ _ _ z _ _ => z.elim) (.cons (.ptr a) .nil) s1 w1
theorem c_lenY {C : Addr} {k : Nat} {e : Expr} {p0 : Pos} {Fd : DCallY Sy} {t : TDY Sy} (he : YC X (SF X.K R0 h0) W e t) (G : MethX X.prog X.w X.K X.mg X.base C "__len__" ["self"] k (spY X.K (SF X.K R0 h0) Fd)) (hr : Room (k + 1) X.A) (hgd : X.A.guards = some []) (hm : X.mg "len" = none) (hg : Gl X "len" := by rfl)
    (hs : starEach [e] X.env = (false, eval e X.env) :: starEach [] X.env := by rfl) (hpl : (backTo pos (starEach [] X.env)).any (·.1) = false := by rfl) : YC X (SF X.K R0 h0) W (.Call (.Name "len" p0) [e] [] pos) (cOwnY C Fd t lenP') := by
  obtain ⟨f, fd, G, M, hb⟩ := G.ex
  refine PE_imp (pe_callB (call_lenI M G hb hr hgd) hg hm (by decide +kernel) (pa_cons he pa_nil hs) (by decide) (by decide) hs hpl) fun σ H Q h => ?_
  refine ownY_fin (r := rLenI C (spY X.K (SF X.K R0 h0) Fd)) (fun a dx gs H1 hh q => ⟨a, dx, gs, rfl, hh, ?_⟩) h
  obtain ⟨ds, τ, q, x, a1, a2, a3, a4, a5⟩ := q
  refine ⟨ds, τ, q, x, a1, a2, a3, fun τ' d v H' w r e s => ?_, a5⟩
  obtain ⟨d', p, ⟨n, rfl, n0, n1⟩, rv, q'⟩ := a4 τ' d v H' w r e s
  cases rv
  exact ⟨n, rfl, n0, n1, q'⟩
theorem c_strY {C : Addr} {k : Nat} {e : Expr} {p0 : Pos} {Fd : DCallY Sy} {t : TDY Sy} (he : YC X (SF X.K R0 h0) W e t) (G : MethX X.prog X.w X.K X.mg X.base C "__str__" ["self"] k (spY X.K (SF X.K R0 h0) Fd)) (hr : Room (k + 2) X.A) (hgd : X.A.guards = some []) (hm : X.mg "str" = none) (hg : Gl X "str" := by rfl)
    (hs : starEach [e] X.env = (false, eval e X.env) :: starEach [] X.env := by rfl) (hpl : (backTo pos (starEach [] X.env)).any (·.1) = false := by rfl) : YC X (SF X.K R0 h0) W (.Call (.Name "str" p0) [e] [] pos) (cOwnY C Fd t strP') := by
  obtain ⟨f, fd, G, M, hb⟩ := G.ex
  refine PE_imp (pe_callTy (call_strI M G hb hr hgd) hg hm (by decide +kernel) (pa_cons he pa_nil hs) (by decide) (by decide) hs hpl) fun σ H Q h => ?_
  refine ownY_fin (r := rStrI "__str__" C (spY X.K (SF X.K R0 h0) Fd)) (fun a dx gs H1 hh q => ⟨a, dx, gs, rfl, hh, ?_⟩) h
  obtain ⟨ds, τ, q, x, a1, a2, a3, a4, a5⟩ := q
  refine ⟨ds, τ, q, x, a1, a2, a3, fun τ' d v H' w r e s => ?_, a5⟩
  obtain ⟨d', p, ⟨n, rfl⟩, rv, q'⟩ := a4 τ' d v H' w r e s
  cases rv
  exact ⟨n, rfl, q'⟩
end
end Dl

set_option Elab.async false
set_option linter.all false
set_option maxRecDepth 100000
set_option maxHeartbeats 4000000
namespace Dl
open PySem PySem.Spec PyProof.Rows L2
/-! ## type(x) == C; and, or over a state -/
section
variable {prog : Program} {w : World} {A : Around} {E : Value → Shared → Prop} {s : Shared}
theorem eq_tycls {n : String} {C : Addr} {Q : Value → Shared → Prop} (hu : A.units + 1 < cLine) (hn : n ∈ knownTy) (hT : s.TypeIs (.ref C) "type") (h : Q (.bool false) s) : wpAny (model prog w) A (compareOp .Eq (.type n) (.ref C)) Q E s := by
  have ha := ty_meta hn s
  show wpAny _ A (richCompare .Eq _ _) Q E s
  have h1 := PySem.TypeEq.slot_type_eq
  have h2 := PySem.TypeEq.slot_type_eq_refl
  rcases hi : cmpInfo CmpOp.Eq with ⟨sym, f, r⟩
  rw [hi] at h1 h2
  simp only [richCompare, hi, ha.oneThing_none]
  try with_reducible refine wpAny_holding ?_
  refine wpAny_bind (wpAny_cRoomFor_or (.inr (by omega)) ?_)
  refine wpAny_bind (wpAny_typeOf ha (wpAny_bind (wpAny_typeOf hT ?_)))
  simp only [bne_self_eq_false, Bool.false_eq_true, if_false, pure_bind, Bool.not_false, if_true]
  refine wpAny_bind (m := tryCompare (Value.type n) _ (Value.ref C)) (wpAny_tryCompare_declines ha h1 (call_gives h1 ha F.entry_object_eq (F.args_object_eq_2 _ _) (PySem.TypeEq.object_eq_other (a := .type n) (b := .ref C) rfl rfl) ⟨rfl, ?_⟩))
  refine wpAny_bind (m := tryCompare (Value.ref C) _ (Value.type n)) (wpAny_tryCompare_declines hT h2 (call_gives h2 hT F.entry_object_eq (F.args_object_eq_2 _ _) (PySem.TypeEq.object_eq_other (a := .ref C) (b := .type n) rfl rfl) ⟨rfl, ?_⟩))
  refine wpAny_bind (wpAny_rule (wpAny_bind (wpAny_of_eq (isSame_plain rfl) (wpAny_pure ?_))))
  exact h
theorem eq_cls_same {C : Addr} {Q : Value → Shared → Prop} (hu : A.units < cLine) (hT : s.TypeIs (.ref C) "type") (h : Q (.bool true) s) : wpAny (model prog w) A (compareOp .Eq (.ref C) (.ref C)) Q E s := by
  show wpAny _ A (richCompare .Eq _ _) Q E s
  exact wpAny_richCompare_same_room (T := "type") hT hT PySem.TypeEq.slot_type_eq (call_eq_sameR hT ⟨(by intro e; cases e), h⟩) hu
end
section
variable {X : Cx} {R0 : Res} {h0 : ∀ H, R0.Ss H} {W : WX} {pos : Pos} {R : Res} {τ : Sy} {F : Fam Sy}
def eqTC (K : PySem.W.Frag) : DOp := fun dx dy q => ∃ C, dy = .ptr C ∧ IsCls K C ∧ ((dx = .ptr C ∧ q (.bl true)) ∨ ∃ n, dx = .ty n ∧ n ∈ knownTy ∧ q (.bl false))
theorem opr_eqTC (hu : X.A.units + 1 < cLine) : OpR X (compareOp .Eq) (fun x y H Q => (∃ C, x = .ref C ∧ y = .ref C ∧ IsCls X.K C ∧ Q (.bl true) H) ∨ ∃ n C, x = .ty n ∧ y = .ref C ∧ n ∈ knownTy ∧ IsCls X.K C ∧ Q (.bl false) H) := by
  rintro pins s σ H x y v u Q I rx ry (⟨C, rfl, rfl, ⟨o, ho, hc⟩, q⟩ | ⟨n, C, rfl, rfl, hn, ⟨o, ho, hc⟩, q⟩)
  · cases rx; cases ry
    exact eq_cls_same (by omega) ⟨o, I.kIn _ _ ho, hc⟩ ⟨.bl true, H, I, rfl, q⟩
  · cases rx; cases ry
    exact eq_tycls hu hn ⟨o, I.kIn _ _ ho, hc⟩ ⟨.bl false, H, I, rfl, q⟩
theorem opd_eqTC {K : PySem.W.Frag} : OpD K R (fun x y H Q => (∃ C, x = .ref C ∧ y = .ref C ∧ IsCls K C ∧ Q (.bl true) H) ∨ ∃ n C, x = .ty n ∧ y = .ref C ∧ n ∈ knownTy ∧ IsCls K C ∧ Q (.bl false) H) (eqTC K) := by
  rintro x y dx dy H q Q rx ry o ⟨C, rfl, hC, w⟩ f
  cases ry
  rcases w with ⟨rfl, w⟩ | ⟨n, rfl, hn, w⟩
  · cases rx
    exact .inl ⟨C, rfl, rfl, hC, f _ _ H w (.bl _) (Ext.refl _ _) o⟩
  · cases rx
    exact .inr ⟨n, C, rfl, rfl, hn, hC, f _ _ H w (.bl _) (Ext.refl _ _) o⟩
/-! ### and, or -/
variable {a b : Expr} {rest : List Expr} {ta tb : TDY Sy}
def cAndV (ta tb : TDY Sy) : TDY Sy := fun τ ρ q x => ta τ ρ (fun τ1 d => ∃ b, d = .bl b ∧ if b = true then tb τ1 ρ q x else q τ1 (.bl false)) x
def cOrV (ta tb : TDY Sy) : TDY Sy := fun τ ρ q x => ta τ ρ (fun τ1 d => ∃ b, d = .bl b ∧ if b = true then q τ1 (.bl true) else tb τ1 ρ q x) x
theorem cv_one {o : BoolOp} (h : YC X F W a ta) : YC X F W (.BoolOp o [a] pos) ta := pe_one h
theorem cv_and (ha : YC X F W a ta) (hb : YC X F W (.BoolOp .And (b :: rest) pos) tb) : YC X F W (.BoolOp .And (a :: b :: rest) pos) (cAndV ta tb) := PE_imp (pe_and ha hb) fun σ H Q ⟨τ, ρ, q, x, r, s, w, f, g⟩ => by
  refine ⟨τ, ρ, _, x, r, s, w, ?_, g⟩
  rintro τ1 d v H1 ⟨k, rfl, w1⟩ r1 e1 s1
  cases r1
  refine ⟨k, rfl, ?_⟩
  cases k with
  | true =>
    rw [if_pos rfl] at w1 ⊢
    exact ⟨τ1, ρ, q, x, r.step e1, s1, w1, fun τ2 d v H2 w2 r2 e2 s2 => f τ2 d v H2 w2 r2 (e1.trans e2) s2, fun C τ' H' hx e2 s2 => g C τ' H' hx (e1.trans e2) s2⟩
  | false => rw [if_neg Bool.false_ne_true] at w1 ⊢; exact f τ1 _ _ H1 w1 (.bl _) e1 s1
theorem cv_or (ha : YC X F W a ta) (hb : YC X F W (.BoolOp .Or (b :: rest) pos) tb) : YC X F W (.BoolOp .Or (a :: b :: rest) pos) (cOrV ta tb) := PE_imp (pe_or ha hb) fun σ H Q ⟨τ, ρ, q, x, r, s, w, f, g⟩ => by
  refine ⟨τ, ρ, _, x, r, s, w, ?_, g⟩
  rintro τ1 d v H1 ⟨k, rfl, w1⟩ r1 e1 s1
  cases r1
  refine ⟨k, rfl, ?_⟩
  cases k with
  | true => rw [if_pos rfl] at w1 ⊢; exact f τ1 _ _ H1 w1 (.bl _) e1 s1
  | false =>
    rw [if_neg Bool.false_ne_true] at w1 ⊢
    exact ⟨τ1, ρ, q, x, r.step e1, s1, w1, fun τ2 d v H2 w2 r2 e2 s2 => f τ2 d v H2 w2 r2 (e1.trans e2) s2, fun C τ' H' hx e2 s2 => g C τ' H' hx (e1.trans e2) s2⟩
end
end Dl

set_option Elab.async false
set_option linter.all false
set_option maxRecDepth 100000
set_option maxHeartbeats 4000000
namespace Dl
open PySem PySem.Spec PyProof.Rows L2
/-! ## f(name=e) -/
structure DefXW1 (P : Program) (w : World) (K : PySem.W.Frag) (mg : Str → Option Value) (base : Heap) (x a : Str) (k : Nat) (sp : Sp) : Prop where
  ex : ∃ (f : Addr) (fd : FuncData), FnX P w K mg base k f fd [a] sp ∧ mg x = some (.ref f) ∧ PySem.W.keepIn K (.ref f) = true ∧ ∀ (s : Shared) (u1 : Value), BindsTo s fd ⟨[], [a].zip [u1]⟩ ([a].zip [u1])
section
variable {X : Cx} {W : WX} {pos : Pos} {F : Fam Sy}
theorem c_callKw1 {k : Nat} {x a : Str} {p : Pos} {kws : List Keyword} {t : TDYA} {Fd : DCallY Sy} (G : DefXW1 X.prog X.w X.K X.mg X.base x a k (spY X.K F Fd)) (tk : Takes X W) (hr : Room k X.A) (hgd : X.A.guards = some []) (ha : YK X F W kws t) (hg : Gl X x := by rfl)
    (hdb : (x == ("__debug__" : Str)) = false := by decide) (hall : (backToKw pos (keywordEach kws X.env)).all (·.1.isSome) = true := by rfl) (hks : (backToKw pos (keywordEach kws X.env)).filterMap (·.1) = [a] := by rfl)
    (hpl : ((backTo pos (starEach [] X.env)).any (·.1) || (backToKw pos (keywordEach kws X.env)).any (·.1.isNone)) = false := by rfl) :
    YC X F W (.Call (.Name x p) [] kws pos) (fun τ ρ q x => t τ ρ (fun τ1 ds => ∃ a, ds = [a] ∧ Fd [a] τ1 q x) x) := by
  obtain ⟨f, fd, G, hm, hk, hbk⟩ := G.ex
  refine ⟨fun pins s σ H Q I ⟨τ, ρ, q, xx, r, sS, w, f1, g1⟩ => ?_⟩
  refine wpAny_Call_Name_kw (ld_glob I hg hm ?_ hdb)
  refine PySem.W.callWith_KW0 (h₀ := X.base) I.ok.mod.kin hk hall ?_ hpl
  refine thn (ha.run pos pins s σ H (fun vs H1 => ∃ v1, vs = [v1] ∧ spY X.K F Fd [v1] H1 Q (WE W σ)) I ?_) fun ws s2 ⟨zs, H2, I2, rz, v1, ez, q2⟩ => ⟨I2.kIn, ?_⟩
  · refine ⟨τ, ρ, _, xx, r, sS, w, ?_, g1⟩
    rintro τ1 ds vs H1 ⟨a, rfl, w1⟩ r1 e1 s1
    obtain ⟨x1, rfl, q1⟩ := r1.one
    exact ⟨x1, rfl, spY_ok (E := WE W σ) e1 f1 g1 (.cons q1 .nil) s1 w1⟩
  · rw [hks]
    subst ez
    cases rz with
    | @cons _ u1 _ _ p1 t4 =>
      cases t4
      exact run_fnX (E := WE W) (args := ⟨[], [a].zip [u1]⟩) G hr hgd (fun _ => hbk s2 u1) (passAt tk σ) I2 (.cons p1 .nil) q2
end
end Dl
namespace Dl
open PySem PySem.Spec PyProof.Rows L2
section
variable {X : Cx} {R : Res} {pos : Pos}
/-- f(), of data -/
theorem d_call0 {k : Nat} {x : Str} {p : Pos} {Fd : DCall} (F : Def X.prog X.w X.K X.mg X.base x k (spD X.K R Fd)) (hr : Room k X.A) (hgd : X.A.guards = some []) (hg : Gl X x := by rfl) (hdb : (x == ("__debug__" : Str)) = false := by decide) :
    EE X R (.Call (.Name x p) [] [] pos) (fun _ q => Fd [] q) := by
  obtain ⟨f, fd, ps, F, hm, hk, hb⟩ := F.ex
  refine ⟨fun pins s σ H Q I ⟨ρ, q, r, o, w, fi⟩ => ?_⟩
  refine wpAny_Call_Name_kw (ld_glob I hg hm ?_ hdb)
  exact PySem.W.callWith_K0 (first := []) I.kIn hk (run_fnG (us := []) (vs := []) F hr hgd hb I .nil ⟨[], q, .nil, o, w, fi⟩)
end
end Dl

set_option Elab.async false
set_option linter.all false
set_option maxRecDepth 100000
set_option maxHeartbeats 4000000
namespace Dl
open PySem PySem.Spec PyProof.Rows L2
/-! ## try: .. except (A, B, C) as n: y = n; then the rest, with the error still at hand -/
/-- the context where a's object is still known -/
abbrev pinned (X : Cx) (a : Addr) (oe : Obj) : Cx := { X with pn := (a, oe) :: X.pn }
theorem ok_pinned {X : Cx} (ok : X.Ok) (a : Addr) (oe : Obj) : (pinned X a oe).Ok :=
  ⟨ok.mod, ok.kind, ok.glob, ok.blt, ok.above, ok.inj, ok.has, ok.cab, ok.hd, ok.frames, ok.stk, ok.exf, ok.bs, ok.bsz, ok.noex, ok.exfs, ok.funs, ok.frf⟩
section
variable {X : Cx} {pins pn' : List (Addr × Obj)} {σ : L2.St} {H : Hp} {s : Shared}
theorem unsuiteP {a : Addr} {q : Addr × Obj} (I : Inv (X.suite a (q :: (X.pn ++ pins))) pn' σ H s) (ok : X.Ok) : Inv (pinned X q.1 q.2) pins σ H s :=
  ⟨ok_pinned ok _ _, I.os, I.bare, I.base, I.loc, I.cell, I.free, I.freeC, fun p hp => I.pin p (List.mem_append_left _ hp), I.hok, I.len⟩
theorem unpin {a : Addr} {oe : Obj} (I : Inv (pinned X a oe) pins σ H s) (ok : X.Ok) : Inv X pins σ H s :=
  ⟨ok, I.os, I.bare, I.base, I.loc, I.cell, I.free, I.freeC, fun p hp => I.pin p (List.mem_cons_of_mem _ hp), I.hok, I.len⟩
end
/-- what the three rows wish of an exception -/
def wKeep3 (K : PySem.W.Frag) (cs : List Value) (i j : Nat) (t2 : Addr → Value → Option Addr → TS) (Wout : WX) (D : Ends) : WX := fun cls d σ H =>
  ∃ b, PySem.W.exmAny K cls cs = some b ∧
    (b = true → ∀ a, H a = none → t2 a cls d D (((σ.set i (some (.ref a))).set j (some (.ref a))).set i none) H) ∧ (b = false → Wout cls d σ H)
section
variable {X : Cx} {n y : Str} {i j : Nat} {body rest : List Stmt} {pos pos' : Pos} {tb : WX → TS} {t1 : TS} {t2 : Addr → Value → Option Addr → TS} {Wout : WX}
theorem pss_try_keep3 {x1 x2 x3 : Str} {c1 c2 c3 : Value} {p1 p2 p3 tp py pn1 pa : Pos} {kt : Nat} (hs : X.stack = X.env :: X.outer) (hf : X.env.frame = some X.env.locals) (hN : X.N.Nodup) (hi : X.N[i]? = some n) (hln : X.env.kindOf n = some .local) (hj : X.N[j]? = some y) (hly : X.env.kindOf y = some .local) (hc1 : Names X x1 c1) (hc2 : Names X x2 c2) (hc3 : Names X x3 c3) (tk : Takes X Wout)
    (hb : ∀ (W : WX) (pn : List (Addr × Obj)) (xe : Value → Shared → Prop), Takes (X.tr pn xe) W → PassesOwn (model X.prog X.w) X.A X.env xe → PSs (X.tr pn xe) body (tb W))
    (h1 : PSs X rest t1) (h2 : ∀ (a : Addr) (oe : Obj) (cls : Value) (d : Option Addr), Zc cls d oe → (∃ vs, oe.data = .fields vs) → PSs (pinned X a oe) rest (t2 a cls d))
    (hsw : ∀ (a : Addr) (oe : Obj) (pn : List (Addr × Obj)), PS (X.suite a ((a, oe) :: pn)) (.Assign [.Name y py] (.Name n pn1) pa) (tAsg (tVar i) (gName j))) :
    PSs X (.Try body [.ExceptHandler (some (.Tuple [.Name x1 p1, .Name x2 p2, .Name x3 p3] kt tp)) (some n) [.Assign [.Name y py] (.Name n pn1) pa] pos'] [] [] pos :: rest) (fun D σ H => tb (wKeep3 X.K [c1, c2, c3] i j t2 Wout D) { D with nx := t1 D } σ H) := by
  refine ⟨fun pins s σ H D I h => ?_⟩
  have ok := I.ok
  have frames : X.A.frames = some (X.env :: X.outer) := by rw [ok.frames, hs]
  refine wpAny_execs_cons (wpAny_Try_except ?_)
  let Post : Flow → Shared → Prop := fun f s' => match f with | .next => wpAny (model X.prog X.w) X.A (execs rest X.env) (SP X pins D) X.xe s' | f => SP X pins D f s'
  refine wpAny_mono ((hb (wKeep3 X.K [c1, c2, c3] i j t2 Wout D) (X.pn ++ pins) (fun e s₁ => wpAny (model X.prog X.w) X.A (noteFrame e X.env) (fun _ s₂ => wpAny (model X.prog X.w) X.A (setFlight e none) (fun _ s₃ =>
    wpAny (model X.prog X.w) X.A (handleBy e X.env [.ExceptHandler (some (.Tuple [.Name x1 p1, .Name x2 p2, .Name x3 p3] kt tp)) (some n) [.Assign [.Name y py] (.Name n pn1) pa] pos']) Post X.xe s₃) X.xe s₂) X.xe s₁) (fun u s' xx => ?_) PassesOwn.looking).run [] s σ H { D with nx := t1 D } (I.toTry _) h) (fun f s1 hsp => ?_) (fun e s1 he => he)
  · obtain ⟨a, B, sI, pins', σ', H', cls, d, rfl, J', nb, up, sky, na, os, ag, b, hb1, hyes, hno⟩ := xx
    have J : Inv X pins σ' H' sI := J'.ofTry ok
    have sky' : Sky B (X.env :: X.outer) a (Zc cls d) X.env.locals s'.heap := by rw [← hs]; exact sky
    show wpAny (model X.prog X.w) X.A (noteFrame (.ref a) X.env) _ _ _
    refine Sky.land Zc.steady frames hf sky' fun h3 fl3 up3 => ?_
    have J3 : Inv X pins σ' H' { s' with heap := h3 } := J.landed nb fl3.1 (up.trans up3) os ag
    obtain ⟨oe3, vs3, he3, hz3, hd3⟩ := fl3.there
    have out : a ∉ frs (X.env :: X.outer) := fun hm => by
      obtain ⟨_, o', e', hnf⟩ := fl3.2.2.1.mem hm
      rw [he3] at e'; cases e'
      exact hnf _ hd3
    have nL : a ≠ X.env.locals := fun z => out (List.mem_filterMap.mpr ⟨X.env, List.mem_cons_self, by rw [hf, z]⟩)
    have nF : a ∉ X.fs := fun hm => by
      obtain ⟨e, he, q⟩ := List.mem_filterMap.mp hm
      exact out (List.mem_filterMap.mpr ⟨e, List.mem_cons_of_mem _ he, q⟩)
    have S3 := J3.suite he3 hd3 na nL nF
    refine wpAny_handleBy_cons (codeAny_handlers_test ?_) (by intro q; cases q)
    -- the tuple of the classes
    let h5 : Heap := h3.push { cls := .type "tuple", data := .seq [c1, c2, c3].toArray }
    have k5 : ∀ b o, h3.get? b = some o → h5.get? b = some o := fun b o e => Heap.get?_push_of_some _ e
    have test : ∀ {Q : Value → Shared → Prop} {E : Value → Shared → Prop}, Q (.ref h3.objs.size) { s' with heap := h5 } → wpAny (model X.prog X.w) (X.A.mark (some (.ref a))) (eval (.Tuple [.Name x1 p1, .Name x2 p2, .Name x3 p3] kt tp) X.env) Q E { s' with heap := h3 } := fun {Q E} q => by
      refine wpAny_Tuple_spliced ?_
      refine Calls.spliced_cons (ld_names (Y := X.suite a ((a, oe3) :: (X.pn ++ pins))) S3 hc1 ?_)
      refine Calls.spliced_cons (ld_names (Y := X.suite a ((a, oe3) :: (X.pn ++ pins))) S3 hc2 ?_)
      refine Calls.spliced_cons (ld_names (Y := X.suite a ((a, oe3) :: (X.pn ++ pins))) S3 hc3 ?_)
      refine Calls.spliced_nil ?_
      exact ⟨by rw [sizeLine_eq]; exact (by decide : (3 : Nat) ≤ 16777216), q⟩
    have LT : PySem.W.Looks (model X.prog X.w) h5 (typeOf (.ref a)) cls := fun A Q E s k q => wpAny_typeOf_ref (k _ _ (k5 _ _ he3)) (by rw [hz3.1]; exact q)
    have K5 : X.K.In h5 := J3.kIn.keeps k5
    have LM := PySem.W.exm_tup3 (M := model X.prog X.w) (tp := h3.objs.size) K5 LT (Heap.get?_push_size h3 rfl) hb1
    have fl5 := fly_keeps fl3 k5
    have up5 : s'.heap.UpToSlots h5 := up3.trans (Heap.UpToSlots.of_keeps k5)
    refine test (LM.here ?_)
    cases b with
    | true =>
      refine codeAny_handlers_suite_as ?_
      refine HandSPX.lands_againZ fl5 fun h4 fl4 up4 => ?_
      have J4 : Inv X pins σ' H' { s' with heap := h4 } := J.landed nb fl4.1 ((up.trans up5).trans up4) os ag
      obtain ⟨oe4, vs4, he4, hz4, hd4⟩ := fl4.there
      have S4 := J4.suite he4 hd4 na nL nF
      refine store_ok (X := X.suite a ((a, oe4) :: (X.pn ++ pins))) (v := .ref a) S4 hN hi (.inl hln) rfl (fun s5 S5 => ?_) (.inr hln)
      refine wpAny_mono ((pss_one (hsw a oe4 (X.pn ++ pins))).run [] s5 _ H' { nx := fun σ6 H6 => σ6 = ((σ'.set i (some (.ref a))).set j (some (.ref a))) ∧ H6 = H', rt := fun _ _ => False, bk := fun _ _ => False, ct := fun _ _ => False } S5 ?_) (fun f s6 hsp => ?_) (fun _ _ z => False.elim z)
      · have hl : i < σ'.length := by
          have e := S5.len
          rw [List.length_set] at e
          rw [e]
          exact (List.getElem?_eq_some_iff.mp hi).1
        exact ⟨.ref a, by rw [List.getElem?_set_self hl], rfl, rfl⟩
      cases f with
      | ret u =>
        obtain ⟨v6, σ6, H6, S6, r6, q6⟩ := hsp
        exact q6.elim
      | next =>
        obtain ⟨σ6, H6, S6, rfl, rfl⟩ := hsp
        refine gone_ok (X := pinned X a oe4) (pins := pins) (unsuiteP S6 ok) hN hi hln fun s7 S7 => ?_
        refine wpAny_mono ((h2 a oe4 cls d hz4 ⟨_, hd4⟩).run pins s7 _ _ D S7 (hyes rfl a na)) (fun f s8 hsp => ?_) (fun _ _ z => z)
        cases f with
        | ret u =>
          obtain ⟨v8, σ8, H8, S8, r8, q8⟩ := hsp
          exact ⟨v8, σ8, H8, unpin S8 ok, r8, q8⟩
        | next =>
          obtain ⟨σ8, H8, S8, q8⟩ := hsp
          exact ⟨σ8, H8, unpin S8 ok, q8⟩
        | brk =>
          obtain ⟨σ8, H8, S8, q8⟩ := hsp
          exact ⟨σ8, H8, unpin S8 ok, q8⟩
        | cont =>
          obtain ⟨σ8, H8, S8, q8⟩ := hsp
          exact ⟨σ8, H8, unpin S8 ok, q8⟩
      | brk =>
        obtain ⟨σ6, H6, S6, q6⟩ := hsp
        exact q6.elim
      | cont =>
        obtain ⟨σ6, H6, S6, q6⟩ := hsp
        exact q6.elim
    | false =>
      show wpAny _ X.A (handleBy (.ref a) X.env []) _ _ _
      refine wpAny_handleBy_nil ?_
      obtain ⟨m1, m2, m3, oe, vs, T, oT, ts', he, hz, hd, h1, hr⟩ := id fl5
      have fin : wpAny (model X.prog X.w) X.A (setFlight (.ref a) X.env.frame) (fun _ s4 => wpAny (model X.prog X.w) X.A (throw (.ref a) : Sem Flow) Post X.xe s4) X.xe { s' with heap := h5 } := by
        rw [hf]
        refine HandSPX.setFlight_upZ fl5 fun h4 hh4 up4 => wpAny_throw (tk _ _ ?_)
        exact ⟨a, B, sI, pins, σ', H', cls, d, rfl, J, nb, (up.trans up5).trans up4, .inr (.inr (by rw [hs]; exact hh4)), na, os, ag, hno rfl⟩
      unfold PySem.passOn
      refine wpAny_bind (wpAny_field he hd h1 ?_)
      rw [if_neg (show ¬ ((Value.ref T == Value.none) = true) from by simp)]
      first
        | exact wpAny_bind (wpAny_pure (wpAny_bind fin))
        | exact wpAny_bind fin
  · cases f with
    | ret u =>
      obtain ⟨v, σ', H', J', r, q⟩ := hsp
      exact ⟨v, σ', H', J'.ofTry ok, r, q⟩
    | next =>
      obtain ⟨σ', H', J', q⟩ := hsp
      exact wpAny_execs_nil (h1.run pins s1 σ' H' D (J'.ofTry ok) q)
    | brk =>
      obtain ⟨σ', H', J', q⟩ := hsp
      exact ⟨σ', H', J'.ofTry ok, q⟩
    | cont =>
      obtain ⟨σ', H', J', q⟩ := hsp
      exact ⟨σ', H', J'.ofTry ok, q⟩
end
end Dl
namespace Dl
open PySem PySem.Spec PyProof.Rows L2
section
variable {X : Cx} {W : WX} {pos : Pos} {F : Fam Sy}
/-- .. over a state: t1 the rest behind the body, t2 the rest behind the clause -/
def yTryK (K : PySem.W.Frag) (cs : List Value) (i j : Nat) (tb : TDSS Sy) (t1 : TDSS Sy) (t2 : Addr → Addr → TDSS Sy) : TDSS Sy := fun e τ ρ =>
  tb ⟨t1 e, e.rt, fun C τ' ρ' => PySem.W.exmAny K (.ref C) cs = some true ∧ ∀ a, t2 C a e τ' (((ρ'.set i (some (.ptr a))).set j (some (.ptr a))).set i none)⟩ τ ρ
/-- the rest, with the error at hand -/
def tSuK (K : PySem.W.Frag) (F : Fam Sy) (W : WX) (t2 : Addr → Addr → TDSS Sy) : Addr → Value → Option Addr → TS := fun a cls d E σ H => ∃ τ ρ e C, cls = .ref C ∧ d = none ∧ REnv K (F.av τ) H σ ρ ∧ F.S τ H ∧ t2 C a e τ ρ ∧ FinSS K F W τ H e E
theorem y_try_keep {n y : Str} {i j : Nat} {body rest : List Stmt} {pos' : Pos} {tb t1 : TDSS Sy} {t2 : Addr → Addr → TDSS Sy} {x1 x2 x3 : Str} {c1 c2 c3 : Value} {p1 p2 p3 tp py pn1 pa : Pos} {kt : Nat} (hs : X.stack = X.env :: X.outer) (hf : X.env.frame = some X.env.locals) (hN : X.N.Nodup) (hi : X.N[i]? = some n) (hln : X.env.kindOf n = some .local) (hj : X.N[j]? = some y) (hly : X.env.kindOf y = some .local) (hc1 : Names X x1 c1) (hc2 : Names X x2 c2) (hc3 : Names X x3 c3) (tk : Takes X W)
    (hb : ∀ (W' : WX) (pn : List (Addr × Obj)) (xe : Value → Shared → Prop), Takes (X.tr pn xe) W' → PassesOwn (model X.prog X.w) X.A X.env xe → YSs (X.tr pn xe) F W' body tb)
    (h1 : YSs X F W rest t1) (h2 : ∀ (a : Addr) (oe : Obj) (cls : Value) (d : Option Addr), Zc cls d oe → (∃ vs, oe.data = .fields vs) → PSs (pinned X a oe) rest (tSuK X.K F W t2 a cls d))
    (hsw : ∀ (a : Addr) (oe : Obj) (pn : List (Addr × Obj)), PS (X.suite a ((a, oe) :: pn)) (.Assign [.Name y py] (.Name n pn1) pa) (tAsg (tVar i) (gName j))) :
    YSs X F W (.Try body [.ExceptHandler (some (.Tuple [.Name x1 p1, .Name x2 p2, .Name x3 p3] kt tp)) (some n) [.Assign [.Name y py] (.Name n pn1) pa] pos'] [] [] pos :: rest) (yTryK X.K [c1, c2, c3] i j tb t1 t2) :=
  PSs_imp (pss_try_keep3 (Wout := W) (tb := fun W' => tDSS X.K F W' tb) hs hf hN hi hln hj hly hc1 hc2 hc3 tk hb h1 h2 hsw) fun E σ H ⟨τ, ρ, e, r, s, w, f⟩ => by
    refine ⟨τ, ρ, _, r, s, w, ⟨fun τ' ρ' σ' H' w' r' e' s' => ?_, f.rt, ?_⟩⟩
    · exact ⟨τ', ρ', e, r', s', w', f.step e'⟩
    · rintro C τ' ρ' σ' H' ⟨hm, hall⟩ r' e' s'
      exact ⟨true, hm, fun _ a na => ⟨τ', _, e, C, rfl, rfl, ((r'.set (.ptr a) i).set (.ptr a) j).drop i, s', hall a, f.step e'⟩, fun z => nomatch z⟩
open L2H in
/-- f(e), e the error, behind the clause -/
theorem pe_callPn {k : Nat} {x : Str} {p : Pos} {e : Expr} {te : TE} {sp : Addr × Obj → Sp} {a : Addr} {oe : Obj} (F : DefE X.prog X.w X.K X.mg X.base x k sp) (hr : Room k X.A) (hgd : X.A.guards = some []) (he : PE (pinned X a oe) e te) (hg : Gl X x := by rfl)
    (hdb : (x == ("__debug__" : Str)) = false := by decide) (hs : starEach [e] X.env = (false, eval e X.env) :: starEach [] X.env := by rfl) (hpl : (backTo pos (starEach [] X.env)).any (·.1) = false := by rfl) :
    PE (pinned X a oe) (.Call (.Name x p) [e] [] pos) (fun σ H Q => te σ H fun v H1 => [v] = [V.ref a] ∧ sp (a, oe) [.ref a] H1 Q E0) := by
  obtain ⟨f, fd, ps, F, hm, hk, hb⟩ := F.ex
  refine ⟨fun pins s σ H Q I h => ?_⟩
  refine wpAny_Call_Name_kw (ld_glob (X := pinned X a oe) I hg hm ?_ hdb)
  refine PySem.W.callWith_K (h₀ := X.base) I.ok.mod.kin hk (thn ((pa_cons he pa_nil hs).run pos pins s σ H (fun vs H1 => vs = [V.ref a] ∧ sp (a, oe) [.ref a] H1 Q E0) I ?_) fun us s1 ⟨vs, H1, I1, r, q⟩ => ⟨I1.kIn, ?_⟩) hs hpl
  · exact h
  · obtain ⟨rfl, q⟩ := q
    have P1 := I1.pin (a, oe) (List.mem_append_left _ List.mem_cons_self)
    have hpin : PinOk X.stack H1 s1 (a, oe) := ⟨P1.1, P1.2.1, fun hm => (List.mem_cons.mp (I1.stkSub a hm)).elim P1.2.2.1 P1.2.2.2.1, P1.2.2.2.2⟩
    have hl : us.length = ps.length := by rw [← r.length]; exact F.len _ _ _ _ _ q
    have b := hb s1 us I1.kIn (by rw [List.append_nil]; exact hl)
    rw [List.append_nil] at b
    refine wpAny_call (codeAny_mono (F.run X.A X.stack s1 H1 ⟨us, []⟩ us [.ref a] Q E0 (a, oe) (roomH_of hr) hgd hpin I1.env0 b r q) fun r s' hq => ?_)
    cases r with
    | error e => exact hq.elim
    | ok fl =>
      cases fl with
      | ret u => exact I1.after hq
      | next => exact False.elim hq
      | brk => exact False.elim hq
      | cont => exact False.elim hq
/-- the rest: return f(y) -/
def yKeepR (j : Nat) (Fs : Addr → (D → Prop) → Prop) : Addr → Addr → TDSS Sy := fun C a e τ ρ => ρ[j]? = some (some (.ptr a)) ∧ Fs C (fun d => e.rt τ d)
theorem yk_ret {k j : Nat} {x y : Str} {p p1 pos3 : Pos} {Fs : Addr → (D → Prop) → Prop} (G : ∀ R : Res, DefE X.prog X.w X.K X.mg X.base x k (spP X.K R Fs)) (hr : Room k X.A) (hgd : X.A.guards = some []) (hi : X.N[j]? = some y := by rfl)
    (hv : Vis X.env.scope y := by first | exact Or.inl rfl | exact Or.inr (Or.inl rfl) | exact Or.inr (Or.inr rfl)) (hg : Gl X x := by rfl)
    (hdx : (x == ("__debug__" : Str)) = false := by decide) (hdy : (y == ("__debug__" : Str)) = false := by decide) (hcd : (y == ("__classdict__" : Str)) = false := by decide)
    (hs : starEach [.Name y p1] X.env = (false, eval (.Name y p1) X.env) :: starEach [] X.env := by rfl) (hpl : (backTo pos (starEach [] X.env)).any (·.1) = false := by rfl) :
    ∀ (a : Addr) (oe : Obj) (cls : Value) (d : Option Addr), Zc cls d oe → (∃ vs, oe.data = .fields vs) → PSs (pinned X a oe) [.Return (some (.Call (.Name x p) [.Name y p1] [] pos)) pos3] (tSuK X.K F W (yKeepR j Fs) a cls d) := by
  intro a oe cls d hz hf
  have G' : ∀ τ, DefE X.prog X.w X.K X.mg X.base x k (spP X.K (F.at τ) Fs) := fun τ => G _
  have run : ∀ τ, PSs (pinned X a oe) [.Return (some (.Call (.Name x p) [.Name y p1] [] pos)) pos3] _ := fun τ => pss_one (ps_ret (pe_callPn (G' τ) hr hgd (pe_var (X := pinned X a oe) hi hv hdy hcd) hg hdx hs hpl))
  refine ⟨fun pins s σ H E I h => ?_⟩
  obtain ⟨τ, ρ, e, C, rfl, rfl, r, o, ⟨h1, h2⟩, f⟩ := h
  refine (run τ).run pins s σ H E I ?_
  obtain ⟨v, hv1, hv2⟩ := r.get h1
  cases hv2
  refine ⟨_, hv1, rfl, C, _, rfl, hz, hf, o, h2, ?_⟩
  exact fun d v H' w rv e' o' => f.rt τ d v H' w rv (.ext e') o'
end
end Dl

set_option Elab.async false
set_option linter.all false
set_option maxRecDepth 100000
set_option maxHeartbeats 4000000
namespace Dl
open PySem PySem.Spec PyProof.Rows L2
/-! ## == of tuples at any depth; a slice of a list of the state as data; a list times a number -/
theorem shaped_tp {xs : List D} (h1 : D.plains xs = true) (h2 : D.eqps xs = true) (h3 : D.dps xs ≤ 60) : SeqAt.shaped (.tuple (D.pys xs)) = true := by
  unfold SeqAt.shaped
  rw [Bool.and_eq_true, decide_eq_true_eq]
  refine ⟨by simp only [PyData.canLay0]; exact pys_lay xs h1 h2, ?_⟩
  simp only [PyData.depth]
  rw [pys_depth xs h1]
  omega
theorem eqv_tp {xs : List D} (h1 : D.plains xs = true) (h2 : D.eqps xs = true) : PyData.eqv (.tuple (D.pys xs)) (.tuple (D.pys xs)) = true := SeqAt.eqv_refl _ (by simp only [PyData.canLay0]; exact pys_lay xs h1 h2)
section
variable {X : Cx} {R : Res} {τ : Sy} {pos : Pos}
def eqTT (neg : Bool) : DOp := fun dx dy q => ∃ xs ys, dx = .tup xs ∧ dy = .tup ys ∧ D.eqps xs = true ∧ D.eqps ys = true ∧ SeqAt.shaped (.tuple (D.pys xs)) = true ∧ SeqAt.shaped (.tuple (D.pys ys)) = true ∧
  q (.bl (if neg then !PyData.eqv (.tuple (D.pys xs)) (.tuple (D.pys ys)) else PyData.eqv (.tuple (D.pys xs)) (.tuple (D.pys ys))))
theorem opd_eqTT : OpD X.K R (rEqD X.K) (eqTT false) := by
  rintro x y dx dy H q Q rx ry o ⟨xs, ys, rfl, rfl, f1, f2, s1, s2, w⟩ f
  have h1 := rep_dpE rx (by simp only [D.eqp]; exact f1)
  have h2 := rep_dpE ry (by simp only [D.eqp]; exact f2)
  simp only [D.py] at h1 h2
  exact ⟨_, _, h1, h2, s1, s2, f _ _ H w (.bl _) (Ext.refl _ _) o⟩
theorem opd_neTT : OpD X.K R (rNeD X.K) (eqTT true) := by
  rintro x y dx dy H q Q rx ry o ⟨xs, ys, rfl, rfl, f1, f2, s1, s2, w⟩ f
  have h1 := rep_dpE rx (by simp only [D.eqp]; exact f1)
  have h2 := rep_dpE ry (by simp only [D.eqp]; exact f2)
  simp only [D.py] at h1 h2
  exact ⟨_, _, h1, h2, s1, s2, f _ _ H w (.bl _) (Ext.refl _ _) o⟩
def vSlLP (τ : Sy) (t : TDE) (tl th : TDO) : TDE := fun ρ q => t ρ fun dx => tl ρ fun lo => th ρ fun hi => ∃ l xs, dx = .ptr l ∧ sget τ l = some (.lst xs) ∧ q (.seq (Dl.cutD xs lo hi))
theorem d_sliceLP {e : Expr} {lo hi : Option Expr} {t : TDE} {tl th : TDO} {p2 : Pos} (S : SymAt X.K τ R) (he : EE X R e t) (hl : PO X lo (tDO X.K R tl)) (hu : PO X hi (tDO X.K R th)) : EE X R (.Subscript e (.Slice lo hi none p2) pos) (vSlLP τ t tl th) :=
  PE_imp (pe_slice slr_any he hl hu) fun σ H Q ⟨ρ, q, hr, ho, w, f⟩ => by
    refine ⟨ρ, _, hr, ho, w, fun dx x H1 w1 r1 e1 o1 => ?_⟩
    refine ⟨ρ, _, hr.mono e1, o1, w1, fun l H2 w2 e2 o2 => ?_⟩
    refine ⟨ρ, _, hr.mono (e1.trans e2), o2, w2, fun u H3 w3 e3 o3 => ?_⟩
    obtain ⟨a, xs, rfl, g, w4⟩ := w3
    cases r1
    obtain ⟨vs, hh, ra⟩ := S H3 o3 a _ g
    exact .inr (.inl ⟨a, vs, rfl, .of hh, fun A n => f _ _ _ w4 (new_seq (ra.cut l u) n o3) (((e1.trans e2).trans e3).trans (Ext.new n)) (o3.new n)⟩)
theorem rep_replicate {K : PySem.W.Frag} {p : List Addr} {H : Hp} {xs : List V} {ds : List D} (r : RepAll K p H xs ds) : ∀ n : Nat, RepAll K p H (List.replicate n xs).flatten (List.replicate n ds).flatten
  | 0 => .nil
  | n + 1 => by
    rw [List.replicate_succ, List.replicate_succ, List.flatten_cons, List.flatten_cons]
    exact r.append (rep_replicate r n)
def mulL : DOp := fun dx dy q => ∃ (xs : List D) (k : Int), lstOf dx xs ∧ dy = .int k ∧ -(2 ^ 63) ≤ k ∧ k < 2 ^ 63 ∧ xs.length * k.toNat ≤ sizeLine ∧ q (.seq (List.replicate k.toNat xs).flatten)
theorem opd_mulL {K : PySem.W.Frag} : OpD K R rRep mulL := by
  rintro x y dx dy H q Q rx ry o ⟨xs, k, hx, rfl, h1, h2, hz, w⟩ f
  obtain ⟨a, vs, rfl, ha, ra⟩ := rep_lst rx hx
  cases ry
  exact ⟨a, k, vs, rfl, rfl, ha, h1, h2, by rw [ra.length]; exact hz, fun l n => f _ _ _ w (new_seq (rep_replicate ra k.toNat) n o) (Ext.new n) (o.new n)⟩
end
section
variable {X : Cx} {W : WX} {pos : Pos} {F : Fam Sy}
/-- e[lo:hi], e over the state -/
def cSlY (t : TDY Sy) (tl th : Sy → TDO) : TDY Sy := fun τ ρ q x => t τ ρ (fun τ1 dx => tl τ1 ρ fun lo => th τ1 ρ fun hi => sliceD dx lo hi (q τ1)) x
theorem c_slY {e : Expr} {lo hi : Option Expr} {t : TDY Sy} {tl th : Sy → TDO} {p2 : Pos} (he : YC X F W e t) (hl : ∀ τ, PO X lo (tDO X.K (F.at τ) (tl τ))) (hu : ∀ τ, PO X hi (tDO X.K (F.at τ) (th τ))) : YC X F W (.Subscript e (.Slice lo hi none p2) pos) (cSlY t tl th) := by
  have hl' : PO X lo (fun σ H Q => ∃ τ, tDO X.K (F.at τ) (tl τ) σ H Q) := ⟨fun pins s σ H Q I ⟨τ, w⟩ => (hl τ).run pins s σ H Q I w⟩
  have hu' : PO X hi (fun σ H Q => ∃ τ, tDO X.K (F.at τ) (th τ) σ H Q) := ⟨fun pins s σ H Q I ⟨τ, w⟩ => (hu τ).run pins s σ H Q I w⟩
  refine PE_imp (pe_slice slr_any he hl' hu') fun σ H Q ⟨τ, ρ, q, x, r, s, w, f, g⟩ => ?_
  refine ⟨τ, ρ, _, x, r, s, w, fun τ1 dx v H1 w1 r1 e1 s1 => ?_, g⟩
  refine ⟨τ1, ρ, _, r.step e1, s1, w1, fun l H2 w2 e2 s2 => ?_⟩
  have st2 : Step F τ1 H1 τ1 H2 := .ext e2
  refine ⟨τ1, ρ, _, (r.step e1).step st2, s2, w2, fun u H3 w3 e3 s3 => ?_⟩
  have st3 : Step F τ1 H2 τ1 H3 := .ext e3
  refine slice_ok (p := F.at τ1) (K := X.K) (Rep.step st3 (Rep.step st2 r1)) s3 w3 ?_
  exact fun d v' H' w' r' e' s' => f τ1 d v' H' w' r' (((e1.trans st2).trans st3).trans (.ext e')) s'
end
end Dl

set_option Elab.async false
set_option linter.all false
set_option maxRecDepth 100000
set_option maxHeartbeats 4000000
namespace Dl
open PySem PySem.Spec PyProof.Rows L2
/-! ## the error handed on to another def; what is never reached -/
section
variable {X : Cx} {R : Res} {pos : Pos}
theorem d_never {e : Expr} : EE X R e (fun _ _ => False) := ⟨fun pins s σ H Q I ⟨ρ, q, r, o, w, f⟩ => w.elim⟩
open L2H in
theorem d_callPin {k i : Nat} {x y : Str} {px p1 : Pos} {Fs : Addr → (D → Prop) → Prop} {p : Addr × Obj} {C : Addr} (G : DefE X.prog X.w X.K X.mg X.base x k (spP X.K R Fs)) (hpn : p ∈ X.pn) (hz : Zc (.ref C) none p.2) (hf : ∃ fs, p.2.data = .fields fs) (hr : RoomH k X.A) (hgd : X.A.guards = some []) (hi : X.N[i]? = some y := by rfl)
    (hv : Vis X.env.scope y := by first | exact Or.inl rfl | exact Or.inr (Or.inl rfl) | exact Or.inr (Or.inr rfl)) (hg : Gl X x := by rfl) (hdb : (x == ("__debug__" : Str)) = false := by decide) (hdy : (y == ("__debug__" : Str)) = false := by decide) (hcd : (y == ("__classdict__" : Str)) = false := by decide)
    (hs : starEach [.Name y p1] X.env = (false, eval (.Name y p1) X.env) :: starEach [] X.env := by rfl) (hpl : (backTo pos (starEach [] X.env)).any (·.1) = false := by rfl) :
    EE X R (.Call (.Name x px) [.Name y p1] [] pos) (fun ρ q => ρ[i]? = some (some (.ptr p.1)) ∧ Fs C q) := by
  obtain ⟨f, fd, ps, F, hm, hk, hb⟩ := G.ex
  refine ⟨fun pins s σ H Q I ⟨ρ, q, r, o, ⟨h1, h2⟩, fi⟩ => ?_⟩
  refine wpAny_Call_Name_kw (ld_glob I hg hm ?_ hdb)
  obtain ⟨v, hv1, hv2⟩ := r.get h1
  cases hv2
  refine PySem.W.callWith_K (h₀ := X.base) I.ok.mod.kin hk (thn ((pa_cons (pe_var hi hv hdy hcd) pa_nil hs).run pos pins s σ H (fun vs H1 => vs = [V.ref p.1] ∧ H1 = H) I ⟨_, hv1, rfl, rfl⟩) fun us s1 ⟨vs, H1, I1, r1, e1, e2⟩ => ⟨I1.kIn, ?_⟩) hs hpl
  subst e1 e2
  have P1 := I1.pin p (List.mem_append_left _ hpn)
  have hpin : PinOk X.stack H1 s1 p := ⟨P1.1, P1.2.1, fun hm => (List.mem_cons.mp (I1.stkSub p.1 hm)).elim P1.2.2.1 P1.2.2.2.1, P1.2.2.2.2⟩
  have qq : spP X.K R Fs p [.ref p.1] H1 Q E0 := ⟨C, q, rfl, hz, hf, o, h2, fi⟩
  have hl : us.length = ps.length := by rw [← r1.length]; exact F.len _ _ _ _ _ qq
  have b := hb s1 us I1.kIn (by rw [List.append_nil]; exact hl)
  rw [List.append_nil] at b
  refine wpAny_call (codeAny_mono (F.run X.A X.stack s1 H1 ⟨us, []⟩ us [.ref p.1] Q E0 p hr hgd hpin I1.env0 b r1 qq) fun r s' hq => ?_)
  cases r with
  | error e => exact hq.elim
  | ok fl =>
    cases fl with
    | ret u => exact I1.after hq
    | next => exact False.elim hq
    | brk => exact False.elim hq
    | cont => exact False.elim hq
end
end Dl

set_option Elab.async false
set_option linter.all false
set_option maxRecDepth 100000
set_option maxHeartbeats 4000000
namespace Dl
open PySem PySem.Spec PyProof.Rows L2
open AutoSeq1 (wpAny_loadPart')
/-! ## data == an instance with an own ==: the other way round -/
section
theorem none_eq_ref (l : Addr) : Gives (Builtin.«NoneType.__eq__» ⟨[.none, .ref l], []⟩) (.val (Value.notImplemented)) := SeqAt.NoneType___eq___none_ref_0 l
theorem int_eq_inst_bool (b : Bool) (l C dx : Addr) : Meets (Builtin.«int.__eq__» ⟨[.bool b, .ref l], []⟩) (fun _ R s => s.heap.get? l = some (PySem.W.instObj C dx) ∧ R (.ok (.ret .notImplemented)) s) :=
  .of_wp fun prog w A R s h => by obtain ⟨hp, g, d, tk, os⟩ := s; obtain ⟨hl, h⟩ := h; wp_walk using wpAny_loadPart' hl, wpAny_load hl; exact ⟨_, rfl, h⟩
theorem int_eq_inst_int (b : Int) (u : Tok) (l C dx : Addr) : Meets (Builtin.«int.__eq__» ⟨[.int b u, .ref l], []⟩) (fun _ R s => s.heap.get? l = some (PySem.W.instObj C dx) ∧ R (.ok (.ret .notImplemented)) s) :=
  .of_wp fun prog w A R s h => by obtain ⟨hp, g, d, tk, os⟩ := s; obtain ⟨hl, h⟩ := h; wp_walk using wpAny_loadPart' hl, wpAny_load hl; exact ⟨_, rfl, h⟩
theorem str_eq_inst_str (b : Str) (u : Tok) (l C dx : Addr) : Meets (Builtin.«str.__eq__» ⟨[.str b u, .ref l], []⟩) (fun _ R s => s.heap.get? l = some (PySem.W.instObj C dx) ∧ R (.ok (.ret .notImplemented)) s) :=
  .of_wp fun prog w A R s h => by obtain ⟨hp, g, d, tk, os⟩ := s; obtain ⟨hl, h⟩ := h; wp_walk using wpAny_loadPart' hl, wpAny_load hl; exact ⟨_, rfl, h⟩
/-- the class at C is no kind of T -/
def NoSub (prog : Program) (w : World) (C : Addr) (T : String) (s : Shared) : Prop := ∀ (A : Around) (Q : Bool → Shared → Prop) (E : Value → Shared → Prop), Q false s → wpAny (model prog w) A (isSubtype (.ref C) (.type T)) Q E s
theorem list_eq_inst {prog : Program} {w : World} {A : Around} {R : Result → Shared → Prop} {s : Shared} (l : Addr) (items : Array Value) (n : Nat) (x C dx : Addr) (hl : s.heap.get? l = some { cls := .type "list", data := .seq items n }) (hx : s.heap.get? x = some (PySem.W.instObj C dx)) (hs : NoSub prog w C "list" s)
    (h : R (.ok (.ret .notImplemented)) s) : wpAny (model prog w) A (Builtin.«list.__eq__» ⟨[.ref l, .ref x], []⟩) (fun fin s' => match fin with | .done f => R (.ok f) s' | .again c' => c'.quiet = true ∧ codeAny (model prog w) A c' R s') (fun e s' => R (.error e) s') s := by
  obtain ⟨hp, g, d, tk, os⟩ := s
  wp_walk using wpAny_loadPart' hl, wpAny_loadPart' hx, wpAny_load hx
  refine hs _ _ _ ?_
  wp_walk
  exact h
theorem tuple_eq_inst {prog : Program} {w : World} {A : Around} {R : Result → Shared → Prop} {s : Shared} (l : Addr) (items : Array Value) (n : Nat) (dd : Option Addr) (sl : Array (Option Value)) (x C dx : Addr) (hl : s.heap.get? l = some { cls := .type "tuple", dict := dd, data := .seq items n, slots := sl }) (hx : s.heap.get? x = some (PySem.W.instObj C dx)) (hs : NoSub prog w C "tuple" s)
    (h : R (.ok (.ret .notImplemented)) s) : wpAny (model prog w) A (Builtin.«tuple.__eq__» ⟨[.ref l, .ref x], []⟩) (fun fin s' => match fin with | .done f => R (.ok f) s' | .again c' => c'.quiet = true ∧ codeAny (model prog w) A c' R s') (fun e s' => R (.error e) s') s := by
  obtain ⟨hp, g, d, tk, os⟩ := s
  wp_walk using wpAny_loadPart' hl, wpAny_loadPart' hx, wpAny_load hx
  refine hs _ _ _ ?_
  wp_walk
  exact h
theorem dict_eq_inst {prog : Program} {w : World} {A : Around} {R : Result → Shared → Prop} {s : Shared} {KT : Type} [DecidableEq KT] {knd : PySem.KeyKind prog w KT} (l : Addr) {ka : List (KT × Value)} (x C dx : Addr) (da : s.heap.DictOf knd l ka) (hx : s.heap.get? x = some (PySem.W.instObj C dx)) (hs : NoSub prog w C "dict" s)
    (h : R (.ok (.ret .notImplemented)) s) : wpAny (model prog w) A (Builtin.«dict.__eq__» ⟨[.ref l, .ref x], []⟩) (fun fin s' => match fin with | .done f => R (.ok f) s' | .again c' => c'.quiet = true ∧ codeAny (model prog w) A c' R s') (fun e s' => R (.error e) s') s := by
  show wpAny _ _ (Builtin.Dict.dictSlotArgs "__eq__" ⟨[.ref l, .ref x], []⟩ >>= _) _ _ s
  refine wpAny_bind ?_
  unfold Builtin.Dict.dictSlotArgs
  refine wpAny_bind (wpAny_notOrdered_dict da.typeIs ?_)
  show wpAny _ _ (pure (Value.ref l, Value.ref x)) _ _ s
  refine wpAny_pure ?_
  refine wpAny_bind ?_
  wp_walk using wpAny_load hx
  refine hs _ _ _ ?_
  wp_walk
  exact h
end
end Dl

set_option Elab.async false
set_option linter.all false
set_option maxRecDepth 100000
set_option maxHeartbeats 4000000
namespace Dl
open PySem PySem.Spec PyProof.Rows L2 PySem.W
section
variable {prog : Program} {w : World} {A A₀ : Around} {E : Value → Shared → Prop} {s : Shared} {K : Frag} {x C L f : Addr} {h₀ : Heap} {m : Str → Option Value} {ox : Obj} {od : Option Obj} {name : Str} {a ta : Value}
/-- a comparison whose left side declines: the instance on the right is asked by its own method -/
theorem cmp_R {op : CmpOp} {Q : Value → Shared → Prop} (hu : A.units < cLine) (F : Fr h₀ L s.heap m) (X₀ : K.In h₀) (I : InstAt s.heap x ox C od) (ha : Looks (model prog w) s.heap (typeOf a) ta) (hne : (ta != .ref C) = true) (hsub : subIn K (.ref C) ta = some false)
    (hone : oneThing? op a (.ref x) = none) (hdec : ∀ P : Option Value → Shared → Prop, P none s → wpAny (model prog w) A (tryCompare a (cmpInfo op).2.1 (.ref x)) P E s)
    (hs : findIn K (.ref C) (cmpInfo op).2.2 = some (some (.ref f))) (hf : isFn K (.ref f) = true)
    (h : wpAny (model prog w) A (call (.ref f) [.ref x, a]) (PySem.W.CmpBack Q) E s) : wpAny (model prog w) A (richCompare op a (.ref x)) Q E s := by
  have X := X₀.keeps F.keep
  have one : wpAny (model prog w) A (tryCompare (.ref x) (cmpInfo op).2.2 a) (fun r s' => ∃ v, r = some v ∧ Q v s') E s := by
    unfold tryCompare
    refine wpAny_bind (ifBound_K X I hs hf (wpAny_mono h (fun v s' hv => ?_) fun _ _ e => e))
    cases v <;> first | exact hv.elim | exact wpAny_pure ⟨_, rfl, hv⟩
  unfold richCompare
  simp only [hone]
  refine wpAny_holding (wpAny_bind (wpAny_cRoomFor hu ?_))
  refine wpAny_bind (ha.here (wpAny_bind (I.type.here ?_)))

  simp only [hne, if_true]
  refine wpAny_bind ((looks_subIn X hsub).here ?_)
  simp only [Bool.false_eq_true, if_false, Bool.not_false, if_true]
  refine wpAny_bind (hdec _ ?_)
  refine wpAny_bind (wpAny_mono one (fun r s' z => ?_) fun _ _ e => e)
  obtain ⟨v, rfl, hq⟩ := z
  exact wpAny_pure hq
end
end Dl

set_option Elab.async false
set_option linter.all false
set_option maxRecDepth 100000
set_option maxHeartbeats 4000000
namespace Dl
open PySem PySem.Spec PyProof.Rows L2
open AutoSeq1 (wpAny_loadPart')
section
variable {prog : Program} {w : World} {A : Around} {E : Value → Shared → Prop} {s : Shared} {x C dx : Addr}
/-- plain data declines to be compared with the instance at x -/
def Decl (prog : Program) (w : World) (A : Around) (E : Value → Shared → Prop) (s : Shared) (a : Value) (x : Addr) : Prop := ∀ P : Option Value → Shared → Prop, P none s → wpAny (model prog w) A (tryCompare a "__eq__" (.ref x)) P E s
theorem decl_list (l : Addr) (items : Array Value) (n : Nat) (hl : s.heap.get? l = some { cls := .type "list", data := .seq items n }) (hx : s.heap.get? x = some (PySem.W.instObj C dx)) (hs : NoSub prog w C "list" s) : Decl prog w A E s (.ref l) x := fun P h => by
  have ty : s.TypeIs (.ref l) "list" := ⟨_, hl, rfl⟩
  refine wpAny_tryCompare_declines ty PySem.F.slot_list_eq (wpAny_call_entry PySem.F.slot_list_eq ty PySem.F.entry_list_eq ?_ (PySem.F.args_list_eq_2 _ _))
  clear ty
  obtain ⟨hp, g, d, tk, os⟩ := s
  wp_walk using wpAny_loadPart' hl, wpAny_loadPart' hx, wpAny_load hx
  refine hs _ _ _ ?_
  wp_walk
  exact ⟨_, rfl, rfl, h⟩
theorem decl_tuple (l : Addr) (items : Array Value) (n : Nat) (dd : Option Addr) (sl : Array (Option Value)) (hl : s.heap.get? l = some { cls := .type "tuple", dict := dd, data := .seq items n, slots := sl }) (hx : s.heap.get? x = some (PySem.W.instObj C dx)) (hs : NoSub prog w C "tuple" s) : Decl prog w A E s (.ref l) x := fun P h => by
  have ty : s.TypeIs (.ref l) "tuple" := ⟨_, hl, rfl⟩
  refine wpAny_tryCompare_declines ty PySem.F.slot_tuple_eq (wpAny_call_entry PySem.F.slot_tuple_eq ty PySem.F.entry_tuple_eq ?_ (PySem.F.args_tuple_eq_2 _ _))
  clear ty
  obtain ⟨hp, g, d, tk, os⟩ := s
  wp_walk using wpAny_loadPart' hl, wpAny_loadPart' hx, wpAny_load hx
  refine hs _ _ _ ?_
  wp_walk
  exact ⟨_, rfl, rfl, h⟩
theorem decl_dict {KT : Type} [DecidableEq KT] {knd : PySem.KeyKind prog w KT} (l : Addr) {ka : List (KT × Value)} (da : s.heap.DictOf knd l ka) (hx : s.heap.get? x = some (PySem.W.instObj C dx)) (hs : NoSub prog w C "dict" s) : Decl prog w A E s (.ref l) x := fun P h => by
  refine wpAny_tryCompare_declines da.typeIs PySem.F.slot_dict_eq (wpAny_call_entry PySem.F.slot_dict_eq da.typeIs PySem.F.entry_dict_eq ?_ (PySem.F.args_dict_eq_2 _ _))
  show wpAny _ _ (Builtin.Dict.dictSlotArgs "__eq__" ⟨[.ref l, .ref x], []⟩ >>= _) _ _ s
  refine wpAny_bind ?_
  unfold Builtin.Dict.dictSlotArgs
  refine wpAny_bind (wpAny_notOrdered_dict da.typeIs ?_)
  show wpAny _ _ (pure (Value.ref l, Value.ref x)) _ _ s
  refine wpAny_pure ?_
  refine wpAny_bind ?_
  wp_walk using wpAny_load hx
  refine hs _ _ _ ?_
  wp_walk
  exact ⟨_, rfl, rfl, h⟩
theorem decl_none : Decl prog w A E s .none x := fun P h =>
  wpAny_tryCompare_declines (show s.TypeIs .none "NoneType" from rfl) PySem.F.slot_NoneType_eq (call_gives PySem.F.slot_NoneType_eq rfl PySem.F.entry_NoneType_eq (PySem.F.args_NoneType_eq_2 _ _) (none_eq_ref x) ⟨rfl, h⟩)
theorem decl_int (b : Int) (u : Tok) (hx : s.heap.get? x = some (PySem.W.instObj C dx)) : Decl prog w A E s (.int b u) x := fun P h => by
  have ty : s.TypeIs (.int b u) "int" := rfl
  refine wpAny_tryCompare_declines ty PySem.F.slot_int_eq (wpAny_call_entry PySem.F.slot_int_eq ty PySem.F.entry_int_eq ?_ (PySem.F.args_int_eq_2 _ _))
  clear ty
  obtain ⟨hp, g, d, tk, os⟩ := s
  wp_walk using wpAny_loadPart' hx, wpAny_load hx
  exact ⟨_, rfl, rfl, h⟩
theorem decl_bool (b : Bool) (hx : s.heap.get? x = some (PySem.W.instObj C dx)) : Decl prog w A E s (.bool b) x := fun P h => by
  have ty : s.TypeIs (.bool b) "bool" := rfl
  refine wpAny_tryCompare_declines ty PySem.F.slot_bool_eq (wpAny_call_entry PySem.F.slot_bool_eq ty PySem.F.entry_int_eq ?_ (PySem.F.args_int_eq_2 _ _))
  clear ty
  obtain ⟨hp, g, d, tk, os⟩ := s
  wp_walk using wpAny_loadPart' hx, wpAny_load hx
  exact ⟨_, rfl, rfl, h⟩
theorem decl_str (b : Str) (u : Tok) (hx : s.heap.get? x = some (PySem.W.instObj C dx)) : Decl prog w A E s (.str b u) x := fun P h => by
  have ty : s.TypeIs (.str b u) "str" := rfl
  refine wpAny_tryCompare_declines ty PySem.F.slot_str_eq (wpAny_call_entry PySem.F.slot_str_eq ty PySem.F.entry_str_eq ?_ (PySem.F.args_str_eq_2 _ _))
  clear ty
  obtain ⟨hp, g, d, tk, os⟩ := s
  wp_walk using wpAny_loadPart' hx, wpAny_load hx
  exact ⟨_, rfl, rfl, h⟩
end
end Dl

set_option Elab.async false
set_option linter.all false
set_option maxRecDepth 100000
set_option maxHeartbeats 4000000
namespace Dl
open PySem PySem.Spec PyProof.Rows L2
open AutoSeq1 (wpAny_loadPart')
section
variable {prog : Program} {w : World} {A : Around} {E : Value → Shared → Prop} {s : Shared} {x C dx : Addr}
theorem decl_listP {l : Addr} {items : Array Value} (pl : PlainL s.heap l items) (hx : s.heap.get? x = some (PySem.W.instObj C dx)) (hs : NoSub prog w C "list" s) : Decl prog w A E s (.ref l) x := fun P h => by
  have ty : s.TypeIs (.ref l) "list" := pl.isList.typeIs
  refine wpAny_tryCompare_declines ty PySem.F.slot_list_eq (wpAny_call_entry PySem.F.slot_list_eq ty PySem.F.entry_list_eq ?_ (PySem.F.args_list_eq_2 _ _))
  clear ty
  obtain ⟨o, n, hl, hc, hd, hsq⟩ := pl
  obtain ⟨cls, dict, data, slots⟩ := o
  simp only at hc hd hsq
  subst hc
  subst hd
  subst hsq
  obtain ⟨hp, g, d, tk, os⟩ := s
  wp_walk using wpAny_loadPart' hl, wpAny_loadPart' hx, wpAny_load hx
  refine hs _ _ _ ?_
  wp_walk
  exact ⟨_, rfl, rfl, h⟩
theorem decl_tupP {l : Addr} {items : Array Value} (pl : IsTup s.heap l items) (hx : s.heap.get? x = some (PySem.W.instObj C dx)) (hs : NoSub prog w C "tuple" s) : Decl prog w A E s (.ref l) x := fun P h => by
  have ty : s.TypeIs (.ref l) "tuple" := by obtain ⟨o, h1, h2, _⟩ := pl; exact ⟨o, h1, h2⟩
  refine wpAny_tryCompare_declines ty PySem.F.slot_tuple_eq (wpAny_call_entry PySem.F.slot_tuple_eq ty PySem.F.entry_tuple_eq ?_ (PySem.F.args_tuple_eq_2 _ _))
  clear ty
  obtain ⟨o, hl, hc, n, hsq⟩ := pl
  obtain ⟨cls, dict, data, slots⟩ := o
  simp only at hc hsq
  subst hc
  subst hsq
  obtain ⟨hp, g, d, tk, os⟩ := s
  wp_walk using wpAny_loadPart' hl, wpAny_loadPart' hx, wpAny_load hx
  refine hs _ _ _ ?_
  wp_walk
  exact ⟨_, rfl, rfl, h⟩
end
section
variable {X : Cx} {pos : Pos} {pins : List (Addr × Obj)} {σ : L2.St} {H : Hp} {s : Shared}
theorem nosub_of {prog : Program} {w : World} {K : PySem.W.Frag} {C : Addr} {T : String} {s : Shared} (X : K.In s.heap) (h : PySem.W.subIn K (.ref C) (.type T) = some false) : NoSub prog w C T s := fun A Q E q => (PySem.W.looks_subIn X h).here q
/-- all plain data but bytes declines -/
theorem decl_of {A : Around} {E : Value → Shared → Prop} {x : Addr} {C dx : Addr} {y : V} {u : Value} {T : String} (I : Inv X pins σ H s) (ry : RelV y u) (t : TyB X.K H y T) (hT : T ∈ knownTy) (hx : s.heap.get? x = some (PySem.W.instObj C dx)) (hs : ∀ n ∈ knownTy, PySem.W.subIn X.K (.ref C) (.type n) = some false) : Decl X.prog X.w A E s u x := by
  have kin := I.kIn
  have ns : ∀ n ∈ knownTy, NoSub X.prog X.w C n s := fun n hn => nosub_of kin (hs n hn)
  cases t with
  | non => cases (show u = Value.none from ry); exact decl_none
  | bl b => cases (show u = Value.bool b from ry); exact decl_bool b hx
  | int i => obtain ⟨t, rfl⟩ := (show ∃ t, u = Value.int i t from ry); exact decl_int i t hx
  | str z => obtain ⟨t, rfl⟩ := (show ∃ t, u = Value.str z t from ry); exact decl_str z t hx
  | byt b => simp [knownTy] at hT
  | @lst a xs h =>
    cases (show u = Value.ref a from ry)
    obtain ⟨its, rv, pl, hz⟩ := I.list h
    exact decl_listP pl hx (ns _ (by simp [knownTy]))
  | @tup a xs h =>
    cases (show u = Value.ref a from ry)
    obtain ⟨its, rv, pl, hz⟩ := I.tuple h
    exact decl_tupP pl hx (ns _ (by simp [knownTy]))
  | @dK a kvs h =>
    cases (show u = Value.ref a from ry)
    obtain ⟨_, _, vs, _, p⟩ := (show ObjOk X.prog X.w H s.heap a (.dK kvs) from I.hok a _ h)
    exact decl_dict a p hx (ns _ (by simp [knownTy]))
end
end Dl

set_option Elab.async false
set_option linter.all false
set_option maxRecDepth 100000
set_option maxHeartbeats 4000000
namespace Dl
open PySem PySem.Spec PyProof.Rows L2
section
variable {X : Cx} {R0 : Res} {h0 : ∀ H, R0.Ss H} {W : WX} {pos : Pos} {R : Res} {τ : Sy} {F : Fam Sy}
/-- plain data == an instance: the instance's own == is asked, behind the data's that declines -/
def rCmpRI (K : PySem.W.Frag) (C : Addr) (sp : Sp) : R2 := fun x y H Q => ∃ a dx fs, y = .ref a ∧ H a = some (.ins C dx fs) ∧ (∃ T, TyB K H x T ∧ T ∈ knownTy) ∧
  sp [y, x] H (fun z H' => ∃ r : Bool, z = .bl r ∧ Q (.bl r) H') E0
theorem op_cmpRI {C f : Addr} {k : Nat} {fd : FuncData} {sp : Sp} {n1 n2 : Str} (hT : ∀ n ∈ knownTy, PySem.W.subIn X.K (.ref C) (.type n) = some false) (M : Meth X.K C "__eq__" f) (G : FnX X.prog X.w X.K X.mg X.base k f fd [n1, n2] sp) (hb : Binds X.K fd [n1, n2] []) (hr : Room (k + 1) X.A) (hgd : X.A.guards = some []) :
    OpR X (compareOp .Eq) (rCmpRI X.K C sp) := by
  rintro pins s σ H x y v u Q I rx ry ⟨a, dx, fs, rfl, ha, ⟨T, t, hk⟩, q⟩
  cases ry
  obtain ⟨mA, O, _⟩ := ins_get I.hok ha
  have hx := O.obj
  obtain ⟨od, J, _⟩ := O.look
  obtain ⟨m, hF⟩ := I.fr
  have ty : s.TypeIs v T := t.is I rx
  show wpAny (model X.prog X.w) X.A (richCompare .Eq v (.ref a)) (EP X pins σ Q) X.xe s
  refine cmp_R (op := .Eq) (ta := .type T) hr.units0 hF I.ok.mod.kin J (looks_is ty) (by simp) (hT T hk) (ty.oneThing_none _ _) (decl_of I rx t hk hx hT) M.at_ M.fn (wpAny_mono (run_own2 G hb (hr.mono (by omega)) hgd I.env0 I rx q) (fun w s' z => ?_) fun _ _ x => x)
  obtain ⟨z', H', I', rz, r, rfl, qz⟩ := z
  cases rz
  exact ⟨.bl r, H', I', rfl, qz⟩
/-- d == b, of plain data d and an instance b with an own == -/
def cCmpRI (C : Addr) (Fd : DCallY Sy) (ta tb : TDY Sy) : TDY Sy := fun τ ρ q x => ta τ ρ (fun τ1 dx => tb τ1 ρ (fun τ2 dy => ∃ a dxx fs, dy = .ptr a ∧ sget τ2 a = some (.ins C dxx fs) ∧ isObjD dx = true ∧
  Fd [dy, dx] τ2 (fun τ' d => ∃ r : Bool, d = .bl r ∧ q τ' (.bl r)) (fun _ _ => False)) x) x
theorem c_cmpRI_ok {C : Addr} {Fd : DCallY Sy} {ta tb : TDY Sy} : ∀ σ H Q, tDY X.K (SF X.K R0 h0) W (cCmpRI C Fd ta tb) σ H Q → tOp (rCmpRI X.K C (spY X.K (SF X.K R0 h0) Fd)) (tDY X.K (SF X.K R0 h0) W ta) (tDY X.K (SF X.K R0 h0) W tb) σ H Q := by
  rintro σ H Q ⟨τ, ρ, q, x, r, s, w, f, g⟩
  refine ⟨τ, ρ, _, x, r, s, w, fun τ1 dx v H1 w1 r1 e1 s1 => ?_, g⟩
  refine ⟨τ1, ρ, _, x, r.step e1, s1, w1, fun τ2 dy u H2 w2 r2 e2 s2 => ?_, fun C τ' H' hx e2 s2 => g C τ' H' hx (e1.trans e2) s2⟩
  obtain ⟨a, dxx, fs, rfl, ga, hy, w3⟩ := w2
  have r1' := Rep.step e2 r1
  have st : Step (SF X.K R0 h0) τ H τ2 H2 := e1.trans e2
  obtain ⟨gs, hh, ra⟩ := symAt H2 s2 a _ ga
  refine ⟨a, dxx, gs, by cases r2; rfl, hh, ⟨_, rep_tyB r1' hy, kind_known dx hy⟩, ?_⟩
  refine spY_ok (E := E0) (τ1 := τ2) (H1 := H2) st (q := fun τ' d => ∃ r : Bool, d = .bl r ∧ q τ' (.bl r)) (x := fun _ _ => False) (fun τ' d v H' ⟨r, hr, w'⟩ r' e' s' => ?_) (fun _ _ _ z _ _ => z.elim) (.cons r2 (.cons r1' .nil)) s2 w3
  subst hr
  cases r'
  exact ⟨r, rfl, f τ' _ _ H' w' (.bl _) e' s'⟩
theorem c_cmpEqR {a b : Expr} {C : Addr} {k : Nat} {Fd : DCallY Sy} {ta tb : TDY Sy} {n1 n2 : Str} (hT : ∀ n ∈ knownTy, PySem.W.subIn X.K (.ref C) (.type n) = some false) (G : MethX X.prog X.w X.K X.mg X.base C "__eq__" [n1, n2] k (spY X.K (SF X.K R0 h0) Fd)) (hr : Room (k + 1) X.A) (hgd : X.A.guards = some []) (ha : YC X (SF X.K R0 h0) W a ta) (hb : YC X (SF X.K R0 h0) W b tb)
    (hm : behindInMarks .Eq b = false := by first | exact nomark _ | rfl) : YC X (SF X.K R0 h0) W (.Compare a [.Eq] [b] pos) (cCmpRI C Fd ta tb) := by
  obtain ⟨f, fd, G, M, hbd⟩ := G.ex
  exact PE_imp (pe_cmpR (op_cmpRI hT M G hbd hr hgd) ha hb hm) c_cmpRI_ok
end
end Dl

set_option Elab.async false
set_option linter.all false
set_option maxRecDepth 100000
set_option maxHeartbeats 4000000
namespace Dl
open PySem PySem.Spec PyProof.Rows L2
open PySem.W (special_fn LenBack looks_findIn)
section
variable {prog : Program} {w : World} {A : Around} {E : Value → Shared → Prop} {s : Shared} {K : PySem.W.Frag} {x C L f : Addr} {h₀ : Heap} {m : Str → Option Value} {ox : Obj} {od : Option Obj}
/-- the truth of an instance with an own __len__ and no own __bool__ -/
theorem truthy_len {Q : Bool → Shared → Prop} (F : Fr h₀ L s.heap m) (X₀ : K.In h₀) (I : PySem.W.InstAt s.heap x ox C od) (hb : PySem.W.findIn K (.ref C) "__bool__" = some none) (hs : PySem.W.findIn K (.ref C) "__len__" = some (some (.ref f))) (hf : PySem.W.isFn K (.ref f) = true)
    (h : wpAny (model prog w) A.in1 (call (.ref f) [.ref x]) (fun v s' => ∃ n t, v = Value.int n t ∧ 0 ≤ n ∧ n < 2 ^ 63 ∧ ∀ tk, Q (n != 0) { s' with toks := tk }) E s) : wpAny (model prog w) A (truthy (.ref x)) Q E s := by
  have X := X₀.keeps F.keep
  unfold truthy
  refine wpAny_bind (m := callSpecial? (.ref x) (Str.ofString "__bool__")) (wpAny_bind (wpAny_bind (I.type.here ((looks_findIn X hb).here (wpAny_pure ?_)))))
  refine wpAny_bind (wpAny_bind (I.type.here ((looks_findIn X hs).here ?_)))
  show wpAny _ _ (if (some (Value.ref f)).isNone = true then _ else _) _ _ _
  rw [if_neg (by simp)]
  have key : wpAny (model prog w) A (runValue (.builtin "len" ⟨[.ref x], []⟩)) (fun r s' => ∃ n t, r = Value.int n t ∧ Q (n != 0) s') E s := by
    refine wpAny_runValue (codeAny_builtin entry_len ?_)
    rw [Around.under_plainId plain_len _]
    unfold Builtin.«len»
    refine wpAny_bind (m := oneArg "len" _) (wpAny_pure ?_)
    refine wpAny_bind (m := callSpecial? (.ref x) (Str.ofString "__len__")) (special_fn X I hs (beq_iff_eq.mp hf) (wpAny_mono h (fun r s' hr => ?_) fun _ _ y => y))
    obtain ⟨n, u, rfl, h0, h1, hq⟩ := hr
    refine wpAny_bind (wpAny_holding (wpAny_pure ?_))
    refine wpAny_bind (wpAny_letGo ?_)
    show wpAny _ _ (if n < 0 then _ else _) _ _ _
    rw [if_neg (by omega)]
    show wpAny _ _ (if n ≥ 2 ^ 63 then _ else _) _ _ _
    rw [if_neg (by omega)]
    exact wpAny_bind (wpAny_mkInt (wpAny_pure ⟨_, _, rfl, hq _⟩))
  refine wpAny_bind (wpAny_mono key (fun r s' z => ?_) fun _ _ e => e)
  obtain ⟨n, t, rfl, hq⟩ := z
  exact wpAny_pure hq
theorem bool_own {Q : Value → Shared → Prop} (F : Fr h₀ L s.heap m) (X₀ : K.In h₀) (I : PySem.W.InstAt s.heap x ox C od) (hb : PySem.W.findIn K (.ref C) "__bool__" = some none) (hs : PySem.W.findIn K (.ref C) "__len__" = some (some (.ref f))) (hf : PySem.W.isFn K (.ref f) = true)
    (h : wpAny (model prog w) A.in1.in1.in1 (call (.ref f) [.ref x]) (fun v s' => ∃ n t, v = Value.int n t ∧ 0 ≤ n ∧ n < 2 ^ 63 ∧ ∀ tk, Q (.bool (n != 0)) { s' with toks := tk }) E s) : wpAny (model prog w) A (call (.type "bool") [.ref x]) Q E s := by
  refine callType_codes (T := "bool") (Bi := Builtin.«object.__init__») (Q₁ := fun r s₁ => ∃ b, r = Value.bool b ∧ Q r s₁) PySem.F.called_bool (PySem.F.typeCall_bool_1 _) PySem.F.entry_object_init ?_ ?_
  · refine codeAny_of_tree ?_
    show wpAny _ A.in1.in1 (do checkBuiltinCall "bool.__new__" ⟨[.type "bool", .ref x], []⟩; again (.builtin "bool.__new__" ⟨[.type "bool", .ref x], []⟩)) _ _ s
    refine wpAny_bind (wpAny_of_eq (PySem.F.newCall_bool_1 _) (wpAny_pure ⟨plainId_quiet (by decide +kernel) _, codeAny_builtin PySem.F.entry_bool_new ?_⟩))
    rw [Around.under_plainId (by decide +kernel) _]
    unfold Builtin.«bool.__new__»
    have f1 := PySem.F.conv_sub_bool
    have key : wpAny (model prog w) A.in1.in1 (truthy (.ref x)) (fun b s' => Q (.bool b) s') E s := truthy_len F X₀ I hb hs hf h
    repeat (any_goals (first | assumption | (with_reducible refine wpAny_mono key (fun b s' hq => ?_) (fun _ _ e => e)) | wp_step))
    exact ⟨_, rfl, hq⟩
  · rintro obj s₁ ⟨z, rfl, hq⟩
    exact ⟨rfl, PySem.F.args_object_init_2 _ _, object_init_meets PySem.F.called_bool.init.lookup PySem.F.called_bool.made (by decide) prog w A.in1 _ s₁ ⟨rfl, rfl, hq⟩⟩
end
section
variable {X : Cx} {R0 : Res} {h0 : ∀ H, R0.Ss H} {W : WX} {pos : Pos} {R : Res} {τ : Sy} {F : Fam Sy}
def rBoolI (C : Addr) (sp : Sp) : List V → Hp → VK → Prop := fun xs H Q => ∃ a dx fs, xs = [V.ref a] ∧ H a = some (.ins C dx fs) ∧ sp [.ref a] H (fun z H' => ∃ n : Int, z = .int n ∧ 0 ≤ n ∧ n < 2 ^ 63 ∧ Q (.bl (n != 0)) H') E0
theorem call_boolI {C f : Addr} {k : Nat} {fd : FuncData} {sp : Sp} (hb0 : PySem.W.findIn X.K (.ref C) "__bool__" = some none) (M : Meth X.K C "__len__" f) (G : FnX X.prog X.w X.K X.mg X.base k f fd ["self"] sp) (hb : Binds X.K fd ["self"] []) (hr : Room (k + 3) X.A) (hgd : X.A.guards = some []) : CallR X (.type "bool") (rBoolI C sp) := by
  intro pins s σ H xs us Q I r h
  obtain ⟨a, dx, fs, rfl, ha, q⟩ := h
  obtain ⟨u, rfl, ru⟩ := r.one
  cases (show u = Value.ref a from ru)
  obtain ⟨mA, O, _⟩ := ins_get I.hok ha
  obtain ⟨od, J, _⟩ := O.look
  obtain ⟨m, hF⟩ := I.fr
  have hr3 : Room k X.A.in1.in1.in1 := (show Room (k + 1) X.A.in1.in1 from (show Room (k + 2) X.A.in1 from Room.in1 hr).in1).in1
  refine bool_own hF I.ok.mod.kin J hb0 M.at_ M.fn (wpAny_mono (run_own G hb hr3 hgd I.env0.in1.in1.in1 I q) (fun w s' z => ?_) fun _ _ x => x)
  obtain ⟨z', H', I', rz, n, rfl, h1, h2, qz⟩ := z
  obtain ⟨t, rfl⟩ := (show ∃ t, w = Value.int n t from rz)
  exact ⟨n, t, rfl, h1, h2, fun tk => ⟨.bl (n != 0), H', I'.tok _, rfl, qz⟩⟩
end
end Dl

set_option Elab.async false
set_option linter.all false
set_option maxRecDepth 100000
set_option maxHeartbeats 4000000
namespace Dl
open PySem PySem.Spec PyProof.Rows L2
section
variable {X : Cx} {R0 : Res} {h0 : ∀ H, R0.Ss H} {W : WX} {pos : Pos} {R : Res} {τ : Sy} {F : Fam Sy}
/-- bool(o) of an instance with a length -/
def cBoolI (C : Addr) (Fd : DCallY Sy) (to : Sy → TDE) : TDY Sy := fun τ ρ q x => to τ ρ fun od => ∃ a dx fs, od = .ptr a ∧ sget τ a = some (.ins C dx fs) ∧ Fd [.ptr a] τ (fun τ' d => ∃ n : Int, d = .int n ∧ 0 ≤ n ∧ n < 2 ^ 63 ∧ q τ' (.bl (n != 0))) (fun _ _ => False)
theorem bool_fin {C : Addr} {Fd : DCallY Sy} {to : Sy → TDE} {σ : L2.St} {H : Hp} {Q : VK} :
    tDY X.K (SF X.K R0 h0) W (cBoolI C Fd to) σ H Q → tDF X.K (SF X.K R0 h0) to σ H fun v H1 => rBoolI C (spY X.K (SF X.K R0 h0) Fd) [v] H1 Q := by
  rintro ⟨τ, ρ, q, x, rr, sS, w, f1, g1⟩
  refine ⟨τ, ρ, _, rr, sS, w, ?_⟩
  rintro od v H1 ⟨a, dx, fs, rfl, g, w1⟩ r1 e1 s1
  cases r1
  have st1 : Step (SF X.K R0 h0) τ H τ H1 := .ext e1
  obtain ⟨gs, hh, ra⟩ := symAt H1 s1 a _ g
  refine ⟨a, dx, gs, rfl, hh, ?_⟩
  refine spY_ok (E := E0) st1 (q := fun τ' d => ∃ n : Int, d = .int n ∧ 0 ≤ n ∧ n < 2 ^ 63 ∧ q τ' (.bl (n != 0))) (x := fun _ _ => False) (fun τ' d v H' hp r' e' s' => ?_) (fun _ _ _ z _ _ => z.elim) (.cons (.ptr a) .nil) s1 w1
  obtain ⟨n, rfl, n0, n1, w'⟩ := hp
  cases r'
  exact ⟨n, rfl, n0, n1, f1 τ' _ _ H' w' (.bl _) e' s'⟩
theorem c_boolI {C : Addr} {k : Nat} {e : Expr} {p0 : Pos} {Fd : DCallY Sy} {to : Sy → TDE} (hb0 : PySem.W.findIn X.K (.ref C) "__bool__" = some none) (he : ∀ τ, EE X ((SF X.K R0 h0).at τ) e (to τ)) (G : MethX X.prog X.w X.K X.mg X.base C "__len__" ["self"] k (spY X.K (SF X.K R0 h0) Fd)) (hr : Room (k + 3) X.A) (hgd : X.A.guards = some []) (hm : X.mg "bool" = none) (hg : Gl X "bool" := by rfl)
    (hs : starEach [e] X.env = (false, eval e X.env) :: starEach [] X.env := by rfl) (hpl : (backTo pos (starEach [] X.env)).any (·.1) = false := by rfl) : YC X (SF X.K R0 h0) W (.Call (.Name "bool" p0) [e] [] pos) (cBoolI C Fd to) := by
  obtain ⟨f, fd, G, M, hb⟩ := G.ex
  exact PE_imp (pe_callTy (call_boolI hb0 M G hb hr hgd) hg hm (by decide +kernel) (pa_cons (y_all he) pa_nil hs) (by decide) (by decide) hs hpl) fun σ H Q h => bool_fin h
end
end Dl

set_option Elab.async false
set_option linter.all false
set_option maxRecDepth 100000
set_option maxHeartbeats 4000000
namespace Dl
open PySem PySem.Spec PyProof.Rows L2
open PySem.SeqAt
open AutoSeq1 (wpAny_loadPart')
open MeetsSeq MeetsSeq2 MeetsSeq3 SeqRoads2
open GQ (FinOf call_here)
/-! ## `in` a list whose items have an own == -/
section
variable {prog : Program} {w : World} {A : Around} {R : Result → Shared → Prop}
theorem contains_loopG (l : Addr) (x : Value) (N : Nat) (I : Nat → Shared → Prop)
    (turn : ∀ i s, I i s → ∃ (items : Array Value) (n : Nat), s.heap.get? l = some { cls := .type "list", data := .seq items n } ∧ items.size = N ∧ ∀ (h : i < items.size), wpAny (model prog w) A.in1 (eqBool items[i] x) (fun r s' => if r = true then R (.ok (.ret (.bool true))) s' else I (i + 1) s') (fun e s' => R (.error e) s') s)
    (fin : ∀ s, I N s → R (.ok (.ret (.bool false))) s) (k : Nat) :
    ∀ i : Nat, N - i = k → i ≤ N → ∀ s, I i s → wpAny (model prog w) A.in1 (Builtin.«list.__contains__.loop» ⟨[.ref l, x, rawInt i], []⟩) (FinOf prog w A R) (fun e s' => R (.error e) s') s := by
  induction k with
  | zero =>
    intro i hk hi s h
    obtain ⟨items, n, hl, hs, _⟩ := turn _ _ h
    have hi' : i = N := by omega
    have hR := fin s (hi' ▸ h)
    obtain ⟨hp, g, d, tk, os⟩ := s
    wp_walk using wpAny_loadPart' hl
    have hn : items[((i : Nat) : Int).toNat]? = none := by simp; omega
    rw [hn]
    wp_walk
    exact hR
  | succ k ih =>
    intro i hk hi s h
    obtain ⟨items, n, hl, hs, ht⟩ := turn _ _ h
    have hlt : i < items.size := by omega
    have ht := ht hlt
    obtain ⟨hp, g, d, tk, os⟩ := s
    wp_walk using wpAny_loadPart' hl
    have hi1 : items[((i : Nat) : Int).toNat]? = some items[i] := by simp [hlt]
    have hc : ((i : Int) + 1) = ((i + 1 : Nat) : Int) := by push_cast; rfl
    rw [hi1]
    refine wpAny_bind (wpAny_mono ht (fun r s2 h2 => ?_) fun _ _ x => x)
    cases r with
    | true =>
      rw [if_pos rfl] at h2
      obtain ⟨hp2, g2, d2, tk2, os2⟩ := s2
      wp_walk
      exact h2
    | false =>
      rw [if_neg Bool.false_ne_true] at h2
      have hrec := ih (i + 1) (by omega) (by omega) s2 h2
      obtain ⟨hp2, g2, d2, tk2, os2⟩ := s2
      wp_walk
      rw [hc]
      exact ⟨plainId_quiet plain_contains_loop _, codeAny_builtin entry_contains_loop (by
        rw [Around.under_plainId plain_contains_loop _]
        exact hrec)⟩
theorem list_containsG (l : Addr) (x : Value) (N : Nat) (I : Nat → Shared → Prop)
    (turn : ∀ i s, I i s → ∃ (items : Array Value) (n : Nat), s.heap.get? l = some { cls := .type "list", data := .seq items n } ∧ items.size = N ∧ ∀ (h : i < items.size), wpAny (model prog w) A.in1 (eqBool items[i] x) (fun r s' => if r = true then R (.ok (.ret (.bool true))) s' else I (i + 1) s') (fun e s' => R (.error e) s') s)
    (fin : ∀ s, I N s → R (.ok (.ret (.bool false))) s) {s : Shared} (h : I 0 s) : wpAny (model prog w) A.in1 (Builtin.«list.__contains__» ⟨[.ref l, x], []⟩) (FinOf prog w A R) (fun e s' => R (.error e) s') s := by
  obtain ⟨items, n, hl, hs, _⟩ := turn _ _ h
  have hrec := contains_loopG (A := A) (R := R) l x N I turn fin _ 0 rfl (Nat.zero_le _) s h
  obtain ⟨hp, g, d, tk, os⟩ := s
  wp_walk using wpAny_loadPart' hl
  exact ⟨plainId_quiet plain_contains_loop _, codeAny_builtin entry_contains_loop (by
    rw [Around.under_plainId plain_contains_loop _]
    exact hrec)⟩
end
section
variable {prog : Program} {w : World} {A : Around} {E : Value → Shared → Prop} {s : Shared}
theorem inG {l : Addr} {x : Value} {N : Nat} {Q : Value → Shared → Prop} (I : Nat → Shared → Prop)
    (turn : ∀ i s, I i s → ∃ (items : Array Value) (n : Nat), s.heap.get? l = some { cls := .type "list", data := .seq items n } ∧ items.size = N ∧ ∀ (h : i < items.size), wpAny (model prog w) A.in1 (eqBool items[i] x) (fun r s' => if r = true then Q (.bool true) s' else I (i + 1) s') E s)
    (fin : ∀ s, I N s → Q (.bool false) s) (h : I 0 s) : wpAny (model prog w) A (compareOp .In x (.ref l)) Q E s := by
  obtain ⟨items, n, hl, hs, _⟩ := turn _ _ h
  have hT : s.TypeIs (.ref l) "list" := ⟨_, hl, rfl⟩
  show wpAny _ A (do return .bool (← contains (.ref l) x)) Q E s
  refine wpAny_bind (wpAny_contains_slot hT F.slot_list_contains (wpAny_mono (Q := fun v s' => ∃ b, v = .bool b ∧ Q (.bool b) s') (call_here F.slot_list_contains hT F.entry_list_contains (F.args_list_contains_2 _ _) ?_) (fun v s' hv => ?_) fun _ _ e => e))
  · refine list_containsG (R := wants (fun v s' => ∃ b, v = .bool b ∧ Q (.bool b) s') E) l x N I (fun i s' hi => ?_) (fun s' hs => ⟨_, rfl, fin s' hs⟩) h
    obtain ⟨items, n, h1, h2, h3⟩ := turn i s' hi
    refine ⟨items, n, h1, h2, fun hlt => wpAny_mono (h3 hlt) (fun r s2 q => ?_) fun _ _ e => e⟩
    cases r with
    | true => rw [if_pos rfl] at q ⊢; exact ⟨_, rfl, q⟩
    | false => rw [if_neg Bool.false_ne_true] at q ⊢; exact q
  · obtain ⟨b, rfl, hq⟩ := hv
    exact wpAny_truthy_bool (wpAny_pure hq)
theorem eqBool_L {a : Addr} {u : Value} {Q : Bool → Shared → Prop} (hne : u ≠ .ref a) (h : wpAny (model prog w) A (richCompare .Eq (.ref a) u) (fun v s' => ∃ r, v = .bool r ∧ Q r s') E s) : wpAny (model prog w) A (eqBool (.ref a) u) Q E s := by
  unfold eqBool
  refine wpAny_holding ?_
  refine wpAny_ite_split (fun hab => absurd (eq_of_beq hab).symm hne) (fun _ => ?_)
  refine wpAny_bind (wpAny_mono h (fun v s' hv => ?_) fun _ _ x => x)
  obtain ⟨r, rfl, q⟩ := hv
  exact wpAny_truthy_bool q
theorem eqBool_R {a : Addr} {u : Value} {Q : Bool → Shared → Prop} (hne : u ≠ .ref a) (h : wpAny (model prog w) A (richCompare .Eq u (.ref a)) (fun v s' => ∃ r, v = .bool r ∧ Q r s') E s) : wpAny (model prog w) A (eqBool u (.ref a)) Q E s := by
  unfold eqBool
  refine wpAny_holding ?_
  refine wpAny_ite_split (fun hab => absurd (eq_of_beq hab) hne) (fun _ => ?_)
  cases u <;>
  · refine wpAny_bind (wpAny_mono h (fun v s' hv => ?_) fun _ _ x => x)
    obtain ⟨r, rfl, q⟩ := hv
    exact wpAny_truthy_bool q
end
end Dl

set_option Elab.async false
set_option linter.all false
set_option maxRecDepth 100000
set_option maxHeartbeats 4000000
namespace Dl
open PySem PySem.Spec PyProof.Rows L2
/-! ## an item of a list against a thing, one of them with an own == -/
section
variable {X : Cx} {R0 : Res} {h0 : ∀ H, R0.Ss H} {W : WX} {pos : Pos} {R : Res} {τ : Sy} {F : Fam Sy}
/-- the own ==, at any level -/
theorem rc_own {A' : Around} {C f a : Addr} {k : Nat} {fd : FuncData} {sp : Sp} {n1 n2 : Str} {pins : List (Addr × Obj)} {σ : L2.St} {H : Hp} {s : Shared} {dx : Addr} {fs : List (Str × V)} {x : V} {u : Value} {Q : Bool → Hp → Prop} (EC : EqCls X.K C) (M : Meth X.K C "__eq__" f) (G : FnX X.prog X.w X.K X.mg X.base k f fd [n1, n2] sp) (hb : Binds X.K fd [n1, n2] []) (hr : Room (k + 1) A') (hgd : A'.guards = some [])
    (e0 : Env0 X.prog X.w X.K X.mg X.base A' X.stack s H) (I : Inv X pins σ H s) (rx : RelV x u) (ha : H a = some (.ins C dx fs)) (hy : (∃ b dy gs, x = .ref b ∧ H b = some (.ins C dy gs)) ∨ ∃ T, TyB X.K H x T ∧ T ∈ knownTy)
    (q : sp [.ref a, x] H (fun z H' => ∃ r : Bool, z = .bl r ∧ Q r H') E0) : wpAny (model X.prog X.w) A' (richCompare .Eq (.ref a) u) (fun v s' => ∃ r, v = .bool r ∧ ∃ H', Inv X pins σ H' s' ∧ Q r H') X.xe s := by
  obtain ⟨mA, O, _⟩ := ins_get I.hok ha
  obtain ⟨od, J, _⟩ := O.look
  obtain ⟨m, hF⟩ := I.fr
  have hl : ∃ tb, PySem.W.Looks (model X.prog X.w) s.heap (typeOf u) tb ∧ PySem.W.notFirst X.K C tb = true := by
    rcases hy with ⟨b, dy, gs, rfl, hb'⟩ | ⟨T, t, hT⟩
    · cases rx
      obtain ⟨mB, O', _⟩ := ins_get I.hok hb'
      obtain ⟨od', J', _⟩ := O'.look
      exact ⟨_, J'.type, by simp [PySem.W.notFirst]⟩
    · exact ⟨_, looks_is (t.is I rx), by unfold PySem.W.notFirst; rw [EC.ty T hT]; simp⟩
  obtain ⟨tb, hb1, hb2⟩ := hl
  refine PySem.W.cmp_K (op := .Eq) (tb := tb) hr.units0 hF I.ok.mod.kin J hb1 hb2 M.at_ M.fn (wpAny_mono (run_own2 G hb (hr.mono (by omega)) hgd e0 I rx q) (fun w s' z => ?_) fun _ _ x => x)
  obtain ⟨z', H', I', rz, r, rfl, qz⟩ := z
  cases rz
  exact ⟨r, rfl, H', I', qz⟩
/-- plain data on the left: the own == is asked second, at any level -/
theorem rc_ownR {A' : Around} {C f a : Addr} {k : Nat} {fd : FuncData} {sp : Sp} {n1 n2 : Str} {pins : List (Addr × Obj)} {σ : L2.St} {H : Hp} {s : Shared} {dx : Addr} {fs : List (Str × V)} {x : V} {u : Value} {Q : Bool → Hp → Prop} (hT : ∀ n ∈ knownTy, PySem.W.subIn X.K (.ref C) (.type n) = some false) (M : Meth X.K C "__eq__" f) (G : FnX X.prog X.w X.K X.mg X.base k f fd [n1, n2] sp) (hb : Binds X.K fd [n1, n2] []) (hr : Room (k + 1) A') (hgd : A'.guards = some [])
    (e0 : Env0 X.prog X.w X.K X.mg X.base A' X.stack s H) (I : Inv X pins σ H s) (rx : RelV x u) (ha : H a = some (.ins C dx fs)) (hx : ∃ T, TyB X.K H x T ∧ T ∈ knownTy)
    (q : sp [.ref a, x] H (fun z H' => ∃ r : Bool, z = .bl r ∧ Q r H') E0) : wpAny (model X.prog X.w) A' (richCompare .Eq u (.ref a)) (fun v s' => ∃ r, v = .bool r ∧ ∃ H', Inv X pins σ H' s' ∧ Q r H') X.xe s := by
  obtain ⟨T, t, hk⟩ := hx
  obtain ⟨mA, O, _⟩ := ins_get I.hok ha
  have hx := O.obj
  obtain ⟨od, J, _⟩ := O.look
  obtain ⟨m, hF⟩ := I.fr
  have ty : s.TypeIs u T := t.is I rx
  refine cmp_R (op := .Eq) (ta := .type T) hr.units0 hF I.ok.mod.kin J (looks_is ty) (by simp) (hT T hk) (ty.oneThing_none _ _) (decl_of I rx t hk hx hT) M.at_ M.fn (wpAny_mono (run_own2 G hb (hr.mono (by omega)) hgd e0 I rx q) (fun w s' z => ?_) fun _ _ x => x)
  obtain ⟨z', H', I', rz, r, rfl, qz⟩ := z
  cases rz
  exact ⟨r, rfl, H', I', qz⟩
/-- the item y against the thing x -/
def eqStep (K : PySem.W.Frag) (C : Addr) (sp : Sp) : V → V → Hp → (Bool → Hp → Prop) → Prop := fun y x H Q =>
  (∃ a dx fs, y = .ref a ∧ H a = some (.ins C dx fs) ∧ ((∃ b dy gs, x = .ref b ∧ a ≠ b ∧ H b = some (.ins C dy gs)) ∨ ∃ T, TyB K H x T ∧ T ∈ knownTy) ∧ sp [y, x] H (fun z H' => ∃ r : Bool, z = .bl r ∧ Q r H') E0) ∨
  (∃ a dx fs, x = .ref a ∧ H a = some (.ins C dx fs) ∧ (∃ T, TyB K H y T ∧ T ∈ knownTy) ∧ sp [x, y] H (fun z H' => ∃ r : Bool, z = .bl r ∧ Q r H') E0)
theorem ty_ne {C a : Addr} {pins : List (Addr × Obj)} {σ : L2.St} {H : Hp} {s : Shared} {dx : Addr} {fs : List (Str × V)} {x : V} {u : Value} {T : String} (I : Inv X pins σ H s) (rx : RelV x u) (ha : H a = some (.ins C dx fs)) (t : TyB X.K H x T) : u ≠ .ref a := fun e => by
  subst e
  obtain ⟨mA, O, _⟩ := ins_get I.hok ha
  obtain ⟨o, h1, h2⟩ := (show s.TypeIs (.ref a) T from t.is I rx)
  rw [O.obj] at h1
  cases h1
  cases h2
theorem eq_step {A' : Around} {C f : Addr} {k : Nat} {fd : FuncData} {sp : Sp} {n1 n2 : Str} {pins : List (Addr × Obj)} {σ : L2.St} {H : Hp} {s : Shared} {x y : V} {u v : Value} {Q : Bool → Hp → Prop} (EC : EqCls X.K C) (hT : ∀ n ∈ knownTy, PySem.W.subIn X.K (.ref C) (.type n) = some false) (M : Meth X.K C "__eq__" f) (G : FnX X.prog X.w X.K X.mg X.base k f fd [n1, n2] sp) (hb : Binds X.K fd [n1, n2] []) (hr : Room (k + 1) A') (hgd : A'.guards = some [])
    (e0 : Env0 X.prog X.w X.K X.mg X.base A' X.stack s H) (I : Inv X pins σ H s) (ry : RelV y v) (rx : RelV x u) (q : eqStep X.K C sp y x H Q) : wpAny (model X.prog X.w) A' (eqBool v u) (fun r s' => ∃ H', Inv X pins σ H' s' ∧ Q r H') X.xe s := by
  rcases q with ⟨a, dx, fs, rfl, ha, hy, q⟩ | ⟨a, dx, fs, rfl, ha, hx, q⟩
  · cases ry
    have hne : u ≠ .ref a := by
      rcases hy with ⟨b, dy, gs, rfl, hab, hb'⟩ | ⟨T, t, hT⟩
      · cases rx
        intro e
        cases e
        exact hab rfl
      · exact ty_ne I rx ha t
    refine eqBool_L hne (rc_own EC M G hb hr hgd e0 I rx ha ?_ q)
    rcases hy with ⟨b, dy, gs, h1, _, h2⟩ | h
    · exact .inl ⟨b, dy, gs, h1, h2⟩
    · exact .inr h
  · cases rx
    obtain ⟨T, t, hk⟩ := hx
    exact eqBool_R (ty_ne I ry ha t) (rc_ownR hT M G hb hr hgd e0 I ry ha ⟨T, t, hk⟩ q)
/-- the items from the last k on, one by one -/
def lpV (st : V → V → Hp → (Bool → Hp → Prop) → Prop) (l : Addr) (x : V) (N : Nat) : Nat → Hp → (Bool → Hp → Prop) → Prop
  | 0, H, Q => (∃ us, H l = some (.lst us) ∧ us.length = N) ∧ Q false H
  | k + 1, H, Q => ∃ us y, H l = some (.lst us) ∧ us.length = N ∧ us[N - (k + 1)]? = some y ∧ st y x H (fun b H' => if b = true then Q true H' else lpV st l x N k H' Q)
def rInI (K : PySem.W.Frag) (C : Addr) (sp : Sp) : R2 := fun x y H Q => ∃ l N, y = .ref l ∧ lpV (eqStep K C sp) l x N N H (fun b H' => Q (.bl b) H')
theorem op_inI {C f : Addr} {k : Nat} {fd : FuncData} {sp : Sp} {n1 n2 : Str} (EC : EqCls X.K C) (hT : ∀ n ∈ knownTy, PySem.W.subIn X.K (.ref C) (.type n) = some false) (M : Meth X.K C "__eq__" f) (G : FnX X.prog X.w X.K X.mg X.base k f fd [n1, n2] sp) (hb : Binds X.K fd [n1, n2] []) (hr : Room (k + 2) X.A) (hgd : X.A.guards = some []) : OpR X (compareOp .In) (rInI X.K C sp) := by
  rintro pins s σ H x y v u Q I rx ry ⟨l, N, rfl, q⟩
  cases ry
  refine inG (N := N) (fun i s' => i ≤ N ∧ ∃ H', Inv X pins σ H' s' ∧ lpV (eqStep X.K C sp) l x N (N - i) H' (fun b H' => Q (.bl b) H')) ?_ ?_ ⟨Nat.zero_le _, H, I, q⟩
  · rintro i s' ⟨hi, H', I', q⟩
    by_cases hiN : i < N
    · obtain ⟨k', hk'⟩ : ∃ k', N - i = k' + 1 := ⟨N - i - 1, by omega⟩
      rw [hk'] at q
      obtain ⟨us, y, hl, hlen, hy, q⟩ := q
      obtain ⟨its, n, r, ho, hz⟩ := I'.lst hl
      have hsz : its.toArray.size = N := by rw [List.size_toArray, ← hlen, r.length]
      refine ⟨_, n, ho, hsz, fun hlt => ?_⟩
      have hidx : N - (k' + 1) = i := by omega
      rw [hidx] at hy
      obtain ⟨w', hw, rw'⟩ := r.get hy
      have e1 : its.toArray[i] = w' := by
        have : its[i]? = some w' := hw
        rw [List.getElem?_eq_some_iff] at this
        obtain ⟨_, h⟩ := this
        simpa using h
      rw [e1]
      refine wpAny_mono (eq_step EC hT M G hb (show Room (k + 1) X.A.in1 from Room.in1 hr) hgd I'.env0.in1 I' rw' rx q) (fun r' s2 z => ?_) fun _ _ e => e
      obtain ⟨H2, I2, q2⟩ := z
      cases r' with
      | true => rw [if_pos rfl] at q2 ⊢; exact ⟨.bl true, H2, I2, rfl, q2⟩
      | false =>
        rw [if_neg Bool.false_ne_true] at q2 ⊢
        have : N - (i + 1) = k' := by omega
        rw [this]
        exact ⟨by omega, H2, I2, q2⟩
    · have h0 : N - i = 0 := by omega
      rw [h0] at q
      obtain ⟨⟨us, hl, hlen⟩, q⟩ := q
      obtain ⟨its, n, r, ho, hz⟩ := I'.lst hl
      have hsz : its.toArray.size = N := by rw [List.size_toArray, ← hlen, r.length]
      exact ⟨_, n, ho, hsz, fun hlt => absurd hlt (by omega)⟩
  · rintro s' ⟨hi, H', I', q⟩
    rw [Nat.sub_self] at q
    exact ⟨.bl false, H', I', rfl, q.2⟩
end
end Dl

set_option Elab.async false
set_option linter.all false
set_option maxRecDepth 100000
set_option maxHeartbeats 4000000
namespace Dl
open PySem PySem.Spec PyProof.Rows L2
section
variable {X : Cx} {R0 : Res} {h0 : ∀ H, R0.Ss H} {W : WX} {pos : Pos} {R : Res} {τ : Sy} {F : Fam Sy}
/-- data, or a list of the state: its kind is one of the builtin ones -/
def sTy (τ : Sy) (d : D) : Prop := isObjD d = true ∨ ∃ l xs, d = .ptr l ∧ sget τ l = some (.lst xs)
theorem sTy_ty {H : Hp} {v : V} {d : D} {K : PySem.W.Frag} (s : (symF K R0 h0).S τ H) (r : Rep K ((symF K R0 h0).av τ) H v d) (w : sTy τ d) : ∃ T, TyB K H v T ∧ T ∈ knownTy := by
  rcases w with hd | ⟨l, xs, rfl, g⟩
  · exact ⟨_, rep_tyB r hd, kind_known d hd⟩
  · cases r
    obtain ⟨us, hh, _⟩ := symAt H s l _ g
    exact ⟨_, .lst (.of hh), by decide⟩
/-- the item d against the thing dx -/
def stD (C : Addr) (Fd : DCallY Sy) (d dx : D) (τ : Sy) (q : Sy → Bool → Prop) : Prop :=
  (∃ a dxx fs, d = .ptr a ∧ sget τ a = some (.ins C dxx fs) ∧ ((∃ b dyy gs, dx = .ptr b ∧ a ≠ b ∧ sget τ b = some (.ins C dyy gs)) ∨ sTy τ dx) ∧ Fd [d, dx] τ (fun τ' e => ∃ r : Bool, e = .bl r ∧ q τ' r) (fun _ _ => False)) ∨
  (∃ a dxx fs, dx = .ptr a ∧ sget τ a = some (.ins C dxx fs) ∧ sTy τ d ∧ Fd [dx, d] τ (fun τ' e => ∃ r : Bool, e = .bl r ∧ q τ' r) (fun _ _ => False))
theorem st_ok {C : Addr} {Fd : DCallY Sy} {H : Hp} {v x : V} {d dx : D} {q : Sy → Bool → Prop} {Q : Bool → Hp → Prop} (rv : Rep X.K ((SF X.K R0 h0).av τ) H v d) (rx : Rep X.K ((SF X.K R0 h0).av τ) H x dx) (s : (SF X.K R0 h0).S τ H) (w : stD C Fd d dx τ q)
    (f : ∀ τ' b H', q τ' b → Step (SF X.K R0 h0) τ H τ' H' → (SF X.K R0 h0).S τ' H' → Q b H') : eqStep X.K C (spY X.K (SF X.K R0 h0) Fd) v x H Q := by
  have fin : ∀ {ds : List D} {vs : List V}, RepAll X.K ((SF X.K R0 h0).av τ) H vs ds → Fd ds τ (fun τ' e => ∃ r : Bool, e = .bl r ∧ q τ' r) (fun _ _ => False) → spY X.K (SF X.K R0 h0) Fd vs H (fun z H' => ∃ r : Bool, z = .bl r ∧ Q r H') E0 := fun ra w =>
    spY_ok (E := E0) (τ1 := τ) (H1 := H) .refl (q := fun τ' e => ∃ r : Bool, e = .bl r ∧ q τ' r) (x := fun _ _ => False) (fun τ' d' v' H' ⟨r, hr, w'⟩ r' e' s' => by
      subst hr
      cases r'
      exact ⟨r, rfl, f τ' r H' w' e' s'⟩) (fun _ _ _ z _ _ => z.elim) ra s w
  rcases w with ⟨a, dxx, fs, rfl, ga, hy, w⟩ | ⟨a, dxx, fs, rfl, ga, hd, w⟩
  · cases rv
    obtain ⟨gs, hh, _⟩ := symAt H s a _ ga
    refine .inl ⟨a, dxx, gs, rfl, hh, ?_, fin (.cons (.ptr a) (.cons rx .nil)) w⟩
    rcases hy with ⟨b, dyy, gs', rfl, hab, gb⟩ | hy
    · cases rx
      obtain ⟨us, hh2, _⟩ := symAt H s b _ gb
      exact .inl ⟨b, dyy, us, rfl, hab, hh2⟩
    · exact .inr (sTy_ty s rx hy)
  · cases rx
    obtain ⟨gs, hh, _⟩ := symAt H s a _ ga
    exact .inr ⟨a, dxx, gs, rfl, hh, sTy_ty s rv hd, fin (.cons (.ptr a) (.cons rv .nil)) w⟩
/-- the items one by one -/
def lpD (C : Addr) (Fd : DCallY Sy) (l : Addr) (all : List D) (dx : D) : List D → Sy → (Sy → Bool → Prop) → Prop
  | [], τ, q => sget τ l = some (.lst all) ∧ q τ false
  | d :: ds, τ, q => sget τ l = some (.lst all) ∧ stD C Fd d dx τ (fun τ' b => if b = true then q τ' true else lpD C Fd l all dx ds τ' q)
theorem lp_ok {C : Addr} {Fd : DCallY Sy} {l : Addr} {all : List D} {dx : D} {x : V} {q : Sy → Bool → Prop} {Q : Bool → Hp → Prop} : ∀ (ds : List D) (τ : Sy) (H : Hp), ds = all.drop (all.length - ds.length) → ds.length ≤ all.length → Rep X.K ((SF X.K R0 h0).av τ) H x dx → (SF X.K R0 h0).S τ H → lpD C Fd l all dx ds τ q →
    (∀ τ' b H', q τ' b → Step (SF X.K R0 h0) τ H τ' H' → (SF X.K R0 h0).S τ' H' → Q b H') → lpV (eqStep X.K C (spY X.K (SF X.K R0 h0) Fd)) l x all.length ds.length H Q
  | [], τ, H, hd, hl, rx, s, w, f => by
    obtain ⟨g, w⟩ := w
    obtain ⟨us, hh, ra⟩ := symAt H s l _ g
    exact ⟨⟨us, hh, ra.length⟩, f τ false H w .refl s⟩
  | d :: ds, τ, H, hd, hl, rx, s, w, f => by
    obtain ⟨g, w⟩ := w
    obtain ⟨us, hh, ra⟩ := symAt H s l _ g
    have hl' : ds.length + 1 ≤ all.length := hl
    have hat : all[all.length - (ds.length + 1)]? = some d := by
      have := congrArg (fun z : List D => z[0]?) hd
      simpa using this.symm
    have hlt : all.length - (ds.length + 1) < us.length := by rw [ra.length]; omega
    obtain ⟨d', hd', rv⟩ := ra.get' (List.getElem?_eq_getElem hlt)
    rw [hat] at hd'
    cases hd'
    have hv := List.getElem?_eq_getElem hlt
    generalize us[all.length - (ds.length + 1)] = v at hv rv
    refine ⟨us, _, hh, ra.length, hv, st_ok rv rx s w fun τ' b H' w' e' s' => ?_⟩
    cases b with
    | true => rw [if_pos rfl] at w' ⊢; exact f τ' true H' w' e' s'
    | false =>
      rw [if_neg Bool.false_ne_true] at w' ⊢
      refine lp_ok ds τ' H' ?_ (by omega) (rx.step e') s' w' fun τ2 b2 H2 w2 e2 s2 => f τ2 b2 H2 w2 (e'.trans e2) s2
      have := congrArg List.tail hd
      rw [List.tail_cons, List.tail_drop] at this
      refine this.trans ?_
      congr 1
      show all.length - (ds.length + 1) + 1 = all.length - ds.length
      omega
/-- x in a list of the state, by an own == -/
def cInI (C : Addr) (Fd : DCallY Sy) (ta tb : TDY Sy) : TDY Sy := fun τ ρ q x => ta τ ρ (fun τ1 dx => tb τ1 ρ (fun τ2 dy => ∃ l ds, dy = .ptr l ∧ lpD C Fd l ds dx ds τ2 (fun τ' b => q τ' (.bl b))) x) x
theorem c_inI_ok {C : Addr} {Fd : DCallY Sy} {ta tb : TDY Sy} : ∀ σ H Q, tDY X.K (SF X.K R0 h0) W (cInI C Fd ta tb) σ H Q → tOp (rInI X.K C (spY X.K (SF X.K R0 h0) Fd)) (tDY X.K (SF X.K R0 h0) W ta) (tDY X.K (SF X.K R0 h0) W tb) σ H Q := by
  rintro σ H Q ⟨τ, ρ, q, x, r, s, w, f, g⟩
  refine ⟨τ, ρ, _, x, r, s, w, fun τ1 dx v H1 w1 r1 e1 s1 => ?_, g⟩
  refine ⟨τ1, ρ, _, x, r.step e1, s1, w1, fun τ2 dy u H2 w2 r2 e2 s2 => ?_, fun C τ' H' hx e2 s2 => g C τ' H' hx (e1.trans e2) s2⟩
  obtain ⟨l, ds, rfl, w3⟩ := w2
  cases r2
  have st : Step (SF X.K R0 h0) τ H τ2 H2 := e1.trans e2
  exact ⟨l, ds.length, rfl, lp_ok ds τ2 H2 (by simp) (Nat.le_refl _) (Rep.step e2 r1) s2 w3 fun τ' b H' w' e' s' => f τ' _ _ H' w' (.bl b) (st.trans e') s'⟩
theorem c_inI {a b : Expr} {C : Addr} {k : Nat} {Fd : DCallY Sy} {ta tb : TDY Sy} {n1 n2 : Str} (EC : EqCls X.K C) (hT : ∀ n ∈ knownTy, PySem.W.subIn X.K (.ref C) (.type n) = some false) (G : MethX X.prog X.w X.K X.mg X.base C "__eq__" [n1, n2] k (spY X.K (SF X.K R0 h0) Fd)) (hr : Room (k + 2) X.A) (hgd : X.A.guards = some []) (ha : YC X (SF X.K R0 h0) W a ta) (hb : YC X (SF X.K R0 h0) W b tb)
    (hm : behindInMarks .In b = false := by first | exact nomark _ | rfl) : YC X (SF X.K R0 h0) W (.Compare a [.In] [b] pos) (cInI C Fd ta tb) := by
  obtain ⟨f, fd, G, M, hbd⟩ := G.ex
  exact PE_imp (pe_cmpR (op_inI EC hT M G hbd hr hgd) ha hb hm) c_inI_ok
theorem b_inI {a b : Expr} {C : Addr} {k : Nat} {Fd : DCallY Sy} {ta tb : TDY Sy} {n1 n2 : Str} (EC : EqCls X.K C) (hT : ∀ n ∈ knownTy, PySem.W.subIn X.K (.ref C) (.type n) = some false) (G : MethX X.prog X.w X.K X.mg X.base C "__eq__" [n1, n2] k (spY X.K (SF X.K R0 h0) Fd)) (hr : Room (k + 2) X.A) (hgd : X.A.guards = some []) (ha : YC X (SF X.K R0 h0) W a ta) (hb : YC X (SF X.K R0 h0) W b tb)
    (hm : behindInMarks .In b = false := by first | exact nomark _ | rfl) : YTC X (SF X.K R0 h0) W (.Compare a [.In] [b] pos) (bT (cInI C Fd ta tb)) := by
  obtain ⟨f, fd, G, M, hbd⟩ := G.ex
  exact PT_imp (pt_cmpR (op_inI EC hT M G hbd hr hgd) ha hb hm) fun σ H Q w => c_inI_ok σ H _ (b_fin w)
/-! ### == and != against data or a list of the state -/
def cCmpX (C : Addr) (Fd : DCallY Sy) (neg : Bool) (ta tb : TDY Sy) : TDY Sy := fun τ ρ q x => ta τ ρ (fun τ1 dx => tb τ1 ρ (fun τ2 dy => ∃ a dxx fs, dx = .ptr a ∧ sget τ2 a = some (.ins C dxx fs) ∧ ((∃ b dyy gs, dy = .ptr b ∧ sget τ2 b = some (.ins C dyy gs)) ∨ sTy τ2 dy) ∧
  Fd [dx, dy] τ2 (fun τ' d => ∃ r : Bool, d = .bl r ∧ q τ' (.bl (if neg = true then !r else r))) (fun _ _ => False)) x) x
theorem c_cmpX_ok {C : Addr} {Fd : DCallY Sy} {neg : Bool} {ta tb : TDY Sy} : ∀ σ H Q, tDY X.K (SF X.K R0 h0) W (cCmpX C Fd neg ta tb) σ H Q → tOp (rCmpI X.K C (spY X.K (SF X.K R0 h0) Fd) neg) (tDY X.K (SF X.K R0 h0) W ta) (tDY X.K (SF X.K R0 h0) W tb) σ H Q := by
  rintro σ H Q ⟨τ, ρ, q, x, r, s, w, f, g⟩
  refine ⟨τ, ρ, _, x, r, s, w, fun τ1 dx v H1 w1 r1 e1 s1 => ?_, g⟩
  refine ⟨τ1, ρ, _, x, r.step e1, s1, w1, fun τ2 dy u H2 w2 r2 e2 s2 => ?_, fun C τ' H' hx e2 s2 => g C τ' H' hx (e1.trans e2) s2⟩
  obtain ⟨a, dxx, fs, rfl, ga, hy, w3⟩ := w2
  have r1' := Rep.step e2 r1
  have st : Step (SF X.K R0 h0) τ H τ2 H2 := e1.trans e2
  obtain ⟨gs, hh, ra⟩ := symAt H2 s2 a _ ga
  refine ⟨a, dxx, gs, by cases r1'; rfl, hh, ?_, ?_⟩
  · rcases hy with ⟨b, dyy, hs, rfl, gb⟩ | hy
    · obtain ⟨us, hh2, _⟩ := symAt H2 s2 b _ gb
      cases r2
      exact .inl ⟨b, dyy, us, rfl, hh2⟩
    · exact .inr (sTy_ty s2 r2 hy)
  · refine spY_ok (E := E0) (τ1 := τ2) (H1 := H2) st (q := fun τ' d => ∃ r : Bool, d = .bl r ∧ q τ' (.bl (if neg = true then !r else r))) (x := fun _ _ => False) (fun τ' d v H' ⟨r, hr, w'⟩ r' e' s' => ?_) (fun _ _ _ z _ _ => z.elim) (.cons (by cases r1'; exact .ptr a) (.cons r2 .nil)) s2 w3
    subst hr
    cases r'
    exact ⟨r, rfl, f τ' _ _ H' w' (.bl _) e' s'⟩
theorem c_cmpEqX {a b : Expr} {C : Addr} {k : Nat} {Fd : DCallY Sy} {ta tb : TDY Sy} {n1 n2 : Str} (EC : EqCls X.K C) (G : MethX X.prog X.w X.K X.mg X.base C "__eq__" [n1, n2] k (spY X.K (SF X.K R0 h0) Fd)) (hr : Room (k + 1) X.A) (hgd : X.A.guards = some []) (ha : YC X (SF X.K R0 h0) W a ta) (hb : YC X (SF X.K R0 h0) W b tb)
    (hm : behindInMarks .Eq b = false := by first | exact nomark _ | rfl) : YC X (SF X.K R0 h0) W (.Compare a [.Eq] [b] pos) (cCmpX C Fd false ta tb) := by
  obtain ⟨f, fd, G, M, hbd⟩ := G.ex
  exact PE_imp (pe_cmpR (op_cmpI (neg := false) EC M G hbd hr hgd) ha hb hm) c_cmpX_ok
theorem b_cmpEqX {a b : Expr} {C : Addr} {k : Nat} {Fd : DCallY Sy} {ta tb : TDY Sy} {n1 n2 : Str} (EC : EqCls X.K C) (G : MethX X.prog X.w X.K X.mg X.base C "__eq__" [n1, n2] k (spY X.K (SF X.K R0 h0) Fd)) (hr : Room (k + 1) X.A) (hgd : X.A.guards = some []) (ha : YC X (SF X.K R0 h0) W a ta) (hb : YC X (SF X.K R0 h0) W b tb)
    (hm : behindInMarks .Eq b = false := by first | exact nomark _ | rfl) : YTC X (SF X.K R0 h0) W (.Compare a [.Eq] [b] pos) (bT (cCmpX C Fd false ta tb)) := by
  obtain ⟨f, fd, G, M, hbd⟩ := G.ex
  exact PT_imp (pt_cmpR (op_cmpI (neg := false) EC M G hbd hr hgd) ha hb hm) fun σ H Q w => c_cmpX_ok σ H _ (b_fin w)
theorem b_cmpNeX {a b : Expr} {C : Addr} {k : Nat} {Fd : DCallY Sy} {ta tb : TDY Sy} {n1 n2 : Str} (EC : EqCls X.K C) (G : MethX X.prog X.w X.K X.mg X.base C "__eq__" [n1, n2] k (spY X.K (SF X.K R0 h0) Fd)) (hr : Room (k + 1) X.A) (hgd : X.A.guards = some []) (ha : YC X (SF X.K R0 h0) W a ta) (hb : YC X (SF X.K R0 h0) W b tb)
    (hm : behindInMarks .NotEq b = false := by first | exact nomark _ | rfl) : YTC X (SF X.K R0 h0) W (.Compare a [.NotEq] [b] pos) (bT (cCmpX C Fd true ta tb)) := by
  obtain ⟨f, fd, G, M, hbd⟩ := G.ex
  exact PT_imp (pt_cmpR (op_cmpI (neg := true) EC M G hbd hr hgd) ha hb hm) fun σ H Q w => c_cmpX_ok σ H _ (b_fin w)
/-- data or a list == b -/
def cCmpRX (C : Addr) (Fd : DCallY Sy) (ta tb : TDY Sy) : TDY Sy := fun τ ρ q x => ta τ ρ (fun τ1 dx => tb τ1 ρ (fun τ2 dy => ∃ a dxx fs, dy = .ptr a ∧ sget τ2 a = some (.ins C dxx fs) ∧ sTy τ2 dx ∧
  Fd [dy, dx] τ2 (fun τ' d => ∃ r : Bool, d = .bl r ∧ q τ' (.bl r)) (fun _ _ => False)) x) x
theorem c_cmpRX_ok {C : Addr} {Fd : DCallY Sy} {ta tb : TDY Sy} : ∀ σ H Q, tDY X.K (SF X.K R0 h0) W (cCmpRX C Fd ta tb) σ H Q → tOp (rCmpRI X.K C (spY X.K (SF X.K R0 h0) Fd)) (tDY X.K (SF X.K R0 h0) W ta) (tDY X.K (SF X.K R0 h0) W tb) σ H Q := by
  rintro σ H Q ⟨τ, ρ, q, x, r, s, w, f, g⟩
  refine ⟨τ, ρ, _, x, r, s, w, fun τ1 dx v H1 w1 r1 e1 s1 => ?_, g⟩
  refine ⟨τ1, ρ, _, x, r.step e1, s1, w1, fun τ2 dy u H2 w2 r2 e2 s2 => ?_, fun C τ' H' hx e2 s2 => g C τ' H' hx (e1.trans e2) s2⟩
  obtain ⟨a, dxx, fs, rfl, ga, hy, w3⟩ := w2
  have r1' := Rep.step e2 r1
  have st : Step (SF X.K R0 h0) τ H τ2 H2 := e1.trans e2
  obtain ⟨gs, hh, ra⟩ := symAt H2 s2 a _ ga
  refine ⟨a, dxx, gs, by cases r2; rfl, hh, sTy_ty s2 r1' hy, ?_⟩
  refine spY_ok (E := E0) (τ1 := τ2) (H1 := H2) st (q := fun τ' d => ∃ r : Bool, d = .bl r ∧ q τ' (.bl r)) (x := fun _ _ => False) (fun τ' d v H' ⟨r, hr, w'⟩ r' e' s' => ?_) (fun _ _ _ z _ _ => z.elim) (.cons r2 (.cons r1' .nil)) s2 w3
  subst hr
  cases r'
  exact ⟨r, rfl, f τ' _ _ H' w' (.bl _) e' s'⟩
theorem b_cmpEqRX {a b : Expr} {C : Addr} {k : Nat} {Fd : DCallY Sy} {ta tb : TDY Sy} {n1 n2 : Str} (hT : ∀ n ∈ knownTy, PySem.W.subIn X.K (.ref C) (.type n) = some false) (G : MethX X.prog X.w X.K X.mg X.base C "__eq__" [n1, n2] k (spY X.K (SF X.K R0 h0) Fd)) (hr : Room (k + 1) X.A) (hgd : X.A.guards = some []) (ha : YC X (SF X.K R0 h0) W a ta) (hb : YC X (SF X.K R0 h0) W b tb)
    (hm : behindInMarks .Eq b = false := by first | exact nomark _ | rfl) : YTC X (SF X.K R0 h0) W (.Compare a [.Eq] [b] pos) (bT (cCmpRX C Fd ta tb)) := by
  obtain ⟨f, fd, G, M, hbd⟩ := G.ex
  exact PT_imp (pt_cmpR (op_cmpRI hT M G hbd hr hgd) ha hb hm) fun σ H Q w => c_cmpRX_ok σ H _ (b_fin w)
end
end Dl

set_option Elab.async false
set_option linter.all false
set_option maxRecDepth 100000
set_option maxHeartbeats 4000000
namespace Dl
open PySem PySem.Spec PyProof.Rows L2
section
variable {X : Cx} {R0 : Res} {h0 : ∀ H, R0.Ss H} {W : WX} {pos : Pos} {R : Res} {τ : Sy} {F : Fam Sy}
/-- not e, as a value over a state -/
def cNotV (t : TDY Sy) : TDY Sy := fun τ ρ q x => t τ ρ (fun τ1 d => ∃ b, d = .bl b ∧ q τ1 (.bl (!b))) x
theorem cv_not {e : Expr} {t : TDY Sy} (h : YC X F W e t) : YC X F W (.UnaryOp .Not e pos) (cNotV t) := PE_imp (pe_not h) fun σ H Q ⟨τ, ρ, q, x, r, s, w, f, g⟩ => by
  refine ⟨τ, ρ, _, x, r, s, w, ?_, g⟩
  rintro τ1 d v H1 ⟨k, rfl, w1⟩ r1 e1 s1
  cases r1
  exact ⟨k, rfl, f τ1 _ _ H1 w1 (.bl _) e1 s1⟩
/-- type(x), of data, an instance, or a list of the state -/
def typeL (τ : Sy) : DCall := fun ds q => typeA τ ds q ∨ ∃ l xs, ds = [.ptr l] ∧ sget τ l = some (.lst xs) ∧ q (.ty "list")
theorem cd_typeL (S : SymAt X.K τ R) : CallD X.K R (fun xs H Q => rTyp X.K xs H Q ∨ ∃ a C dx fs, xs = [V.ref a] ∧ H a = some (.ins C dx fs) ∧ Q (.ref C) H) (typeL τ) := by
  rintro xs ds H q Q r o w f
  rcases w with w | ⟨l, ys, rfl, g, w⟩
  · exact cd_typeA S xs ds H q Q r o w f
  · obtain ⟨x, rfl, rx⟩ := r.one
    cases rx
    obtain ⟨us, hh, ra⟩ := S H o l _ g
    exact .inl ⟨.ref l, "list", rfl, .lst (.of hh), f _ _ H w (.ty _) (Ext.refl _ _) o⟩
/-- a list of the state != written data, however deep -/
def eqLPE (τ : Sy) (neg : Bool) : DOp := fun dx dy q => ∃ a xs ys, dx = .ptr a ∧ sget τ a = some (.lst xs) ∧ lstOf dy ys ∧ D.eqps xs = true ∧ D.eqps ys = true ∧ SeqAt.shaped (.list (D.pys xs)) = true ∧ SeqAt.shaped (.list (D.pys ys)) = true ∧
  q (.bl (if neg then !PyData.eqv (.list (D.pys xs)) (.list (D.pys ys)) else PyData.eqv (.list (D.pys xs)) (.list (D.pys ys))))
theorem opd_neLPE (S : SymAt X.K τ R) : OpD X.K R (rNeD X.K) (eqLPE τ true) := by
  rintro x y dx dy H q Q rx ry o ⟨a, xs, ys, rfl, g, hy, f1, f2, s1, s2, w⟩ f
  cases rx
  obtain ⟨vs, hh, ra⟩ := S H o a _ g
  obtain ⟨b, us, rfl, hb, rb⟩ := rep_lst ry hy
  exact ⟨_, _, .lst (.of hh) (rep_dpsE ra f1), .lst (.of hb) (rep_dpsE rb f2), s1, s2, f _ _ H w (.bl _) (Ext.refl _ _) o⟩
/-- a + b of lists of the state: a new one -/
def cCatP (ta tb : TDY Sy) : TDY Sy := fun τ ρ q x => ta τ ρ (fun τ1 dx => tb τ1 ρ (fun τ2 dy => ∃ a b xs ys, dx = .ptr a ∧ dy = .ptr b ∧ sget τ2 a = some (.lst xs) ∧ sget τ2 b = some (.lst ys) ∧ xs.length + ys.length ≤ sizeLine ∧ ∀ p, sget τ2 p = none → q ((p, .lst (xs ++ ys)) :: τ2) (.ptr p)) x) x
theorem c_catP {a b : Expr} {ta tb : TDY Sy} (ha : YC X (SF X.K R0 h0) W a ta) (hb : YC X (SF X.K R0 h0) W b tb) : YC X (SF X.K R0 h0) W (.BinOp a .Add b pos) (cCatP ta tb) := PE_imp (pe_op op_cat ha hb) fun σ H Q ⟨τ, ρ, q, x, r, s, w, f, g⟩ => by
  refine ⟨τ, ρ, _, x, r, s, w, fun τ1 dx v H1 w1 r1 e1 s1 => ?_, g⟩
  refine ⟨τ1, ρ, _, x, r.step e1, s1, w1, fun τ2 dy u H2 w2 r2 e2 s2 => ?_, fun C τ' H' hx e2 s2 => g C τ' H' hx (e1.trans e2) s2⟩
  obtain ⟨a, b, xs, ys, rfl, rfl, ga, gb, hz, w3⟩ := w2
  have r1' := Rep.step e2 r1
  cases r1'
  cases r2
  obtain ⟨us, hh, ra⟩ := symAt H2 s2 a _ ga
  obtain ⟨vs, hh2, rb⟩ := symAt H2 s2 b _ gb
  refine ⟨a, b, us, vs, rfl, rfl, hh, hh2, by rw [ra.length, rb.length]; exact hz, fun p n => ?_⟩
  have st : Step (SF X.K R0 h0) τ2 H2 ((p, .lst (xs ++ ys)) :: τ2) (upd H2 p (.lst (us ++ vs))) := new_step n
  exact f _ _ _ _ (w3 p (sget_none s2 n)) (.ptr p) ((e1.trans e2).trans st) (new_ok s2 n ⟨_, upd_same, (RepAll.step st ra).append (RepAll.step st rb)⟩)
/-- o[i] = d at a list of the state -/
def putAt (t tk : Sy → TDE) (d : D) (τ : Sy) (ρ : DE) (q : Sy → Prop) : Prop := t τ ρ fun od => tk τ ρ fun kd => ∃ l xs i j, od = .ptr l ∧ sget τ l = some (.lst xs) ∧ kd = .int i ∧ ixN xs.length i = some j ∧ q ((l, .lst (xs.set j d)) :: τ)
/-- a[i], b[j] = a pair -/
def yPut2 (t1 k1 t2 k2 : Sy → TDE) (tv : TDY Sy) : TDSS Sy := fun e τ ρ => tv τ ρ (fun τ1 d => ∃ d1 d2, d = .tup [d1, d2] ∧ putAt t1 k1 d1 τ1 ρ fun τ2 => putAt t2 k2 d2 τ2 ρ fun τ3 => e.nx τ3 ρ) (fun C τ' => e.xc C τ' ρ)
theorem put_at {t tk : Sy → TDE} {o i : Expr} (ho : ∀ τ, EE X ((SF X.K R0 h0).at τ) o (t τ)) (hi : ∀ τ, EE X ((SF X.K R0 h0).at τ) i (tk τ)) {τ : Sy} {ρ : DE} {σ : L2.St} {H : Hp} {d : D} {v : V} {q : Sy → Prop} {Q : Hp → Prop} (w : putAt t tk d τ ρ q) (r : REnv X.K ((SF X.K R0 h0).av τ) H σ ρ) (s : (SF X.K R0 h0).S τ H) (rv : Rep X.K ((SF X.K R0 h0).av τ) H v d)
    (f : ∀ τ' H', q τ' → Step (SF X.K R0 h0) τ H τ' H' → (SF X.K R0 h0).S τ' H' → Q H') : gSub (tDF X.K (SF X.K R0 h0) t) (tDF X.K (SF X.K R0 h0) tk) rSetL v σ H (fun _ H' => Q H') := by
  refine ⟨τ, ρ, _, r, s, w, fun od x H2 w2 r2 e2 s2 => ?_⟩
  have st2 : Step (SF X.K R0 h0) τ H τ H2 := .ext e2
  refine ⟨τ, ρ, _, r.step st2, s2, w2, ?_⟩
  rintro kd z H3 ⟨l, xs, i, j, rfl, g, rfl, hj, w3⟩ r3 e3 s3
  cases r2
  cases r3
  have st3 : Step (SF X.K R0 h0) τ H2 τ H3 := .ext e3
  obtain ⟨us, hh, ra⟩ := symAt H3 s3 l _ g
  have st : Step (SF X.K R0 h0) τ H3 ((l, .lst (xs.set j d)) :: τ) (upd H3 l (.lst (us.set j v))) := set_step g
  exact ⟨l, us, i, j, rfl, rfl, hh, by rw [ra.length]; exact hj, f _ _ w3 ((st2.trans st3).trans st) (set_ok s3 g ⟨_, upd_same, RepAll.set (RepAll.step st ra) (Rep.step st (Rep.step st3 (Rep.step st2 rv)))⟩)⟩
theorem y_put2 {o1 i1 o2 i2 value : Expr} {p1 p2 p3 : Pos} {kt : Nat} {t1 k1 t2 k2 : Sy → TDE} {tv : TDY Sy} (hc : X.calm = true) (ho1 : ∀ τ, EE X ((SF X.K R0 h0).at τ) o1 (t1 τ)) (hi1 : ∀ τ, EE X ((SF X.K R0 h0).at τ) i1 (k1 τ)) (ho2 : ∀ τ, EE X ((SF X.K R0 h0).at τ) o2 (t2 τ)) (hi2 : ∀ τ, EE X ((SF X.K R0 h0).at τ) i2 (k2 τ)) (hv : YC X (SF X.K R0 h0) W value tv)
    (ha1 : ∀ v, assign (.Subscript o1 i1 p1) X.env v = (do
      let ov ← holding [v] (eval o1 X.env)
      let iv ← holding [v, ov] (eval i1 X.env)
      standAt p1
      holding [v, ov, iv] (setItem ov iv v)
      release [v, ov, iv] []) := by intro _; rfl)
    (ha2 : ∀ v, assign (.Subscript o2 i2 p2) X.env v = (do
      let ov ← holding [v] (eval o2 X.env)
      let iv ← holding [v, ov] (eval i2 X.env)
      standAt p2
      holding [v, ov, iv] (setItem ov iv v)
      release [v, ov, iv] []) := by intro _; rfl)
    (hs1 : (assignEach [.Subscript o1 i1 p1, .Subscript o2 i2 p2] X.env).map (·.2) = assign (.Subscript o1 i1 p1) X.env :: (assignEach [.Subscript o2 i2 p2] X.env).map (·.2) := by rfl)
    (hs2 : (assignEach [.Subscript o2 i2 p2] X.env).map (·.2) = assign (.Subscript o2 i2 p2) X.env :: (assignEach [] X.env).map (·.2) := by rfl)
    (hn : (assignEach [.Subscript o1 i1 p1, .Subscript o2 i2 p2] X.env).length = 2 := by rfl) (hst : (assignEach [.Subscript o1 i1 p1, .Subscript o2 i2 p2] X.env).findIdx? (·.1) = none := by rfl)
    (hs : swapsWithSole [.Tuple [.Subscript o1 i1 p1, .Subscript o2 i2 p2] kt p3] value pos.line X.env = pure false := by rfl) (hw : swappedStores [.Tuple [.Subscript o1 i1 p1, .Subscript o2 i2 p2] kt p3] value X.env = pure none := by rfl)
    (h1 : (assignEach [.Tuple [.Subscript o1 i1 p1, .Subscript o2 i2 p2] kt p3] X.env).map (·.2) = [assign (.Tuple [.Subscript o1 i1 p1, .Subscript o2 i2 p2] kt p3) X.env] := by rfl) :
    YS X (SF X.K R0 h0) W (.Assign [.Tuple [.Subscript o1 i1 p1, .Subscript o2 i2 p2] kt p3] value pos) (yPut2 t1 k1 t2 k2 tv) :=
  PS_imp (ps_asg hv (pg_tup hc (pgs_cons (pg_sub (y_all ho1) (y_all hi1) set_list ha1) (pgs_cons (pg_sub (y_all ho2) (y_all hi2) set_list ha2) pgs_nil hs2) hs1) hn hst) hs hw h1) fun E σ H ⟨τ, ρ, en, r, s, w, fi⟩ => by
  refine ⟨τ, ρ, _, _, r, s, w, ?_, fun C τ' H' hx e2 s2 => fi.xc C τ' ρ σ H' hx (r.step e2) e2 s2⟩
  rintro τ1 d y H1 ⟨d1, d2, rfl, w1⟩ r1 e1 s1
  cases r1 with
  | @tup a vs _ h ra =>
    obtain ⟨v1, v2, rfl, ra1, ra2⟩ := ra.two
    refine ⟨a, _, rfl, h.sq, rfl, v1, [v2], rfl, ?_⟩
    refine put_at ho1 hi1 w1 (r.step e1) s1 ra1 fun τ2 H2 w2 e2 s2 => ?_
    refine ⟨v2, [], rfl, ?_⟩
    refine put_at ho2 hi2 w2 ((r.step e1).step e2) s2 (ra2.step e2) fun τ3 H3 w3 e3 s3 => ?_
    exact ⟨rfl, fi.nx τ3 ρ σ H3 w3 (((r.step e1).step e2).step e3) ((e1.trans e2).trans e3) s3⟩
end
end Dl

set_option Elab.async false
set_option linter.all false
set_option maxRecDepth 100000
set_option maxHeartbeats 4000000
namespace Dl
open PySem PySem.Spec PyProof.Rows L2 HotX
/-! ## for over a tuple while an exception is handled -/
section
variable {prog : Program} {w : World} {A : Around} {E : Value → Shared → Prop} {s : Shared}
theorem pyNext_tuple_end_hot {it t x1 : Addr} {i : Nat} {items : Array Value} {Q : Option Value → Shared → Prop} (hot : HotAt A x1 s.heap) (hne : x1 ≠ it) (hit : s.heap.IsTupleIter it t i) (ht : s.heap.IsTuple t items) (hx : items[i]? = none)
    (hQ : ∀ h', (∀ b o, b ≠ it → s.heap.get? b = some o → h'.get? b = some o) → Q none { s with heap := h' }) : wpAny (model prog w) A (pyNext (.ref it)) Q E s := by
  obtain ⟨o, ho, hc, hd⟩ := id hit
  obtain ⟨ol, hol, _, nl, hdl⟩ := ht
  obtain ⟨hh, o1, vs1, h1, d1, c1⟩ := hot
  unfold pyNext
  refine wpAny_bind (wpAny_attempt (wpAny_callSpecial?_slot (name := Str.ofString "__next__") hit.typeIs F.slot_tuple_iterator_next
    (wpAny_call_entry F.slot_tuple_iterator_next hit.typeIs F.entry_tuple_iterator_next ?_ (F.args_tuple_iterator_next_1 _))))
  show wpAny _ _ (field (.ref it) 0 >>= _) _ _ s
  refine wpAny_bind (wpAny_field ho hd (x := .ref t) rfl ?_)
  show wpAny _ _ (if (Value.ref t == Value.none) = true then _ else _) _ _ s
  rw [if_neg (show ¬ ((Value.ref t == Value.none) = true) from Bool.false_ne_true)]
  show wpAny _ _ (field (.ref it) 1 >>= _) _ _ s
  refine wpAny_bind (wpAny_field ho hd (x := .int i 0) rfl ?_)
  show wpAny _ _ (seqItems? (.ref t) >>= _) _ _ s
  refine wpAny_bind (wpAny_seqItems hol hdl ?_)
  simp only [Int.toNat_natCast, hx]
  refine wpAny_bind (wpAny_rule (wpAny_bind (wpAny_setField ho hd (by simp) ?_)))
  have h1' : (s.heap.update it (Obj.mapFields fun x => x.setIfInBounds 0 Value.none)).get? x1 = some o1 := by rw [Heap.get?_update_other _ _ (Ne.symm hne)]; exact h1
  show wpAny _ _ (newExc (.type "StopIteration") [] >>= _) _ _ _
  refine wpAny_bind ?_
  simp only [newExc, newTuple]
  refine wpAny_bind (wpAny_newObj_type ?_ (by size_fits))
  refine wpAny_bind (m := firstArgMember _ _) (wpAny_of_eq (a := Value.none) (by first | rfl | (simp only [firstArgMember]; rfl)) ?_)
  refine wpAny_newObj_type ?_ (by size_fits)
  refine raiseNew_hot ⟨hh, o1, vs1, Heap.get?_push_of_some _ (Heap.get?_push_of_some _ h1'), d1, c1⟩ (Nat.ne_of_lt (Heap.lt_size (Heap.get?_push_of_some _ h1'))) (Heap.get?_push_size _ rfl) rfl (by first | (simp; done) | (simp; omega) | (simp only [Array.size_append]; simp; omega)) ?_
  refine wpAny_bind (wpAny_isInstance (T := "StopIteration") (b := true) ⟨_, Heap.get?_update_self _ (Heap.get?_push_size _ rfl) rfl, rfl⟩ isSubtype_stop ?_)
  refine wpAny_pure (hQ _ fun b o nb e => ?_)
  have e' : (s.heap.update it (Obj.mapFields fun x => x.setIfInBounds 0 Value.none)).get? b = some o := by rw [Heap.get?_update_other _ _ (Ne.symm nb)]; exact e
  rw [Heap.get?_update_other _ _ (Nat.ne_of_gt (Heap.lt_size (Heap.get?_push_of_some _ e')))]
  exact Heap.get?_push_of_some _ (Heap.get?_push_of_some _ e')
end
open L2H in
theorem turn_tupleH {P : Program} {w : World} {K : PySem.W.Frag} {tg : Expr} (a it : Addr) : TurnH P w K tg (Itt K a) [it] it (fun i h => h.IsTupleIter it a i) where
  mem := by simp
  obj := fun i h st b hb => by
    have e : b = it := by simpa using hb
    subst e
    obtain ⟨o, e, c, d⟩ := st
    exact ⟨o, e, fun v z => by rw [d] at z; cases z⟩
  keep := fun i h h' st k => st.at fun o e => k it (by simp) o e
  item := by
    intro X hP hw hK hc i pins s σ H E I hf st hg
    subst hP hw hK
    obtain ⟨xs, x, hq, hx⟩ := hg
    obtain ⟨its, rv, p, hz⟩ := I.tuple hq
    obtain ⟨u, hu, ru⟩ := rv.get hx
    obtain ⟨f0, f1, f2, f3, f4, f5⟩ := hf it (by simp)
    refine wpAny_pyNext_tuple_item st (show s.heap.IsTuple a its.toArray from p) (x := u) (by simpa using hu) fun h' st' sb => ?_
    have I1 : Inv X pins σ H { s with heap := h' } := I.turned (t' := s.toks) (fun b o hb e => (sb.2 b hb).trans e) f0 f1 f3 f4 f5
    obtain ⟨o, e, c, d⟩ := id st'
    exact ⟨u, rfl, go_of (s := { s with heap := h' }) e c d (by decide) ⟨x, H, I1, ru, ⟨rfl, fun ys hy => by rw [I.tuple_inj hy hq]; exact hx⟩, st', fun b hb => (hf b hb).1⟩⟩
  done := by
    intro X hP hw hK hc i pins s σ H E I hf st hg
    subst hP hw hK
    obtain ⟨xs, hq, hx⟩ := hg
    obtain ⟨its, rv, p, hz⟩ := I.tuple hq
    obtain ⟨f0, f1, f2, f3, f4, f5⟩ := hf it (by simp)
    have hl := rv.length
    obtain ⟨q, ⟨hh, v1, e1, c1⟩, hq⟩ := hc
    have pq := (I.pin q (List.mem_append_left _ hq)).1
    exact pyNext_tuple_end_hot (x1 := q.1) ⟨hh, q.2, v1, pq, e1, c1⟩ (f5 q (List.mem_append_left _ hq)) st (show s.heap.IsTuple a its.toArray from p) (by simp; omega) fun h' eb => ⟨rfl, I.turned (t' := s.toks) (fun b o hb e => eb b o hb e) f0 f1 f3 f4 f5⟩
  self := fun _ _ _ _ _ st h => wpAny_pyIter_tupleiter st h
section
variable {X : Cx} {tg : Expr}
open L2H in
theorem pi_tupH {l : Expr} {tl : TE} (hl : PE X l tl) : PIH X tg l (iTup X.K tl) := by
  refine ⟨fun pins s σ H R I h => ?_⟩
  refine thn (hl.run pins s σ H _ I h) fun v s1 ⟨x, H1, I1, r1, q1⟩ => ?_
  obtain ⟨a, e, ⟨xs, hq⟩, q⟩ := q1
  subst e
  cases r1
  obtain ⟨its, rv, p, hz⟩ := I1.tuple hq
  refine wpAny_pyIter_tuple (show s1.heap.IsTuple a its.toArray from p) ?_
  refine ⟨s1.heap.objs.size, [s1.heap.objs.size], _, _, H1, rfl, I1.kept (t' := s1.toks) fun b o e => Heap.get?_push_of_some _ e, turn_tupleH a _, ⟨_, Heap.get?_push_size _ rfl, rfl, rfl⟩, fun b hb => ?_, q⟩
  have e : b = s1.heap.objs.size := by simpa using hb
  subst e
  exact I1.fpOk (Nat.le_refl _) (I1.hok.fresh (Nat.le_refl _))
end
section
variable {T : Type} {X : Cx} {R0 : Res} {h0 : ∀ H, R0.Ss H} {W : WX} {pos : Pos} {F : Fam T}
/-- for x in a tuple of data, while an exception is handled -/
theorem y_forH {i : Nat} {x : Str} {px : Pos} {iter : Expr} {body : List Stmt} {t : T → TDE} {tb : TDSS T} (nd : X.N.Nodup) (hp : PassesOwn (model X.prog X.w) X.A X.env X.xe) (hc : L2H.HotC X) (hi : ∀ τ, EE X (F.at τ) iter (t τ)) (hb : YSs X F W body tb)
    (hx : X.N[i]? = some x := by rfl) (hl : Loc X.env.scope x := by first | exact Or.inl rfl | exact Or.inr rfl) (hf : X.fn x = true ∨ X.env.scope.names.lookup x = some .local := by first | exact .inl rfl | exact .inr rfl)
    (hs : ∀ x, foldedSetIterable iter X.env x = pure x := by intro _; rfl) : YS X F W (.For (.Name x px) iter body [] pos) (yFor i (fun τ => iTupD (t τ)) tb) :=
  PS_imp (L2H.ps_forH hp hc (pi_tupH (y_all hi)) (pg_name nd hx hl hf) hb hs) fun E σ H ⟨τ, ρ, en, r, s, w, f⟩ => by
    refine ⟨τ, ρ, _, r, s, w, ?_⟩
    rintro od v H1 ⟨ds, rfl, Iv, h0, hstep, hend⟩ r1 e1 s1
    cases r1 with
    | @tup a xs _ h ra =>
      have hlen := ra.length
      refine ⟨a, rfl, ⟨xs, h.sq⟩, ?_⟩
      have e1 : Step F τ H τ H1 := .ext e1
      refine for_it (walk_tup (K := X.K) (a := a) (xs := xs)) (fun j σ' H' => j ≤ xs.length ∧ ∃ τ' ρ', Step F τ H1 τ' H' ∧ F.S τ' H' ∧ REnv X.K (F.av τ') H' σ' ρ' ∧ Iv j τ' ρ') ⟨Nat.zero_le _, τ, ρ, .refl, s1, r.step e1, h0⟩ (fun j σ' H' _ ⟨_, τ', ρ', e2, _⟩ => (SqTp.mono e2.keep' h).sq) ?_ ?_
      · rintro j x σ' H' H'' hj ⟨_, τ', ρ', e2, s2, r2, iv⟩ ⟨rfl, hx⟩
        obtain ⟨d, hd, rd⟩ := (RepAll.steps e2 ra).get' hx
        refine ⟨τ', ρ'.set i (some d), _, REnv.set r2 rd i, s2, hstep j d τ' ρ' hd iv, ⟨fun τ3 ρ3 σ3 H3 w3 r3 e3 s3 => ?_, fun τ3 d3 v3 H3 w3 r3 e3 s3 => f.rt τ3 d3 v3 H3 w3 r3 ((e1.trans e2).trans e3) s3, fun C τ3 ρ3 σ3 H3 w3 r3 e3 s3 => f.xc C τ3 ρ3 σ3 H3 w3 r3 ((e1.trans e2).trans e3) s3⟩⟩
        exact ⟨hj, τ3, ρ3, e2.trans e3, s3, r3, w3⟩
      · rintro σ' H' ⟨_, τ', ρ', e2, s2, r2, iv⟩
        rw [hlen] at iv
        exact f.nx τ' ρ' σ' H' (hend τ' ρ' iv) r2 (e1.trans e2) s2
end
end Dl

set_option Elab.async false
set_option linter.all false
set_option maxRecDepth 100000
set_option maxHeartbeats 4000000
namespace Dl
open PySem PySem.Spec PyProof.Rows L2 HotX L2H
/-! ## a suite that raises again -/
section
variable {X : Cx} {pins : List (Addr × Obj)} {σ : L2.St} {H : Hp} {s : Shared}
/-- some objects that nothing leans on are hidden -/
theorem inv_hide (I : Inv X pins σ H s) (l : List Addr) (na : ∀ b ∈ l, H b = none) (nL : X.env.locals ∉ l) (nc : ∀ b ∈ l, ∀ v, ¬ s.heap.IsCell b v) (n0 : ∀ b ∈ l, X.s_0.heap.get? b = none) (np : ∀ p ∈ X.pn ++ pins, p.1 ∉ l) : Inv X pins σ H { s with heap := PySem.W.hideAll s.heap l } := by
  have k0 : ∀ b o, X.s_0.heap.get? b = some o → b ∉ l := fun b o e m => by rw [n0 b m] at e; cases e
  refine ⟨I.ok, I.os, I.bare, ⟨fun b o e n hb hx => PySem.W.hideAll_get l (I.base.keep b o e n hb hx) (k0 b o e), fun b o e n hb hx => ?_, fun b o e n hx => I.base.free b o e n hx, fun b o e hx => ?_, I.base.tups, I.base.frzs, I.base.tbls⟩, ?_, fun x c hc => ?_, I.free, I.freeC, fun p hp => ?_, fun b o e => ?_, I.len⟩
  · obtain ⟨sl, q⟩ := I.base.slot b o e n hb hx
    exact ⟨sl, PySem.W.hideAll_get l q (k0 b o e)⟩
  · obtain ⟨o', q⟩ := I.base.there b o e hx
    exact ⟨o', PySem.W.hideAll_get l q (k0 b o e)⟩
  · obtain ⟨m, ⟨o, es, ep, ho, rest⟩, hl⟩ := I.loc
    refine ⟨m, ⟨o, es, ep, PySem.W.hideAll_get l ho nL, rest⟩, fun i x v h1 h2 h3 => ?_⟩
    obtain ⟨u, ru, lk⟩ := hl i x v h1 h2 h3
    refine ⟨u, ru, ?_⟩
    rcases lk with lk | ⟨k, c, hc, ic⟩
    · exact .inl lk
    · refine .inr ⟨k, c, hc, ?_⟩
      obtain ⟨o, e1, e2⟩ := id ic
      exact ⟨o, PySem.W.hideAll_get l e1 (fun m => nc c m _ ic), e2⟩
  · obtain ⟨v, ic⟩ := I.cell x c hc
    obtain ⟨o, e1, e2⟩ := id ic
    exact ⟨v, o, PySem.W.hideAll_get l e1 (fun m => nc c m _ ic), e2⟩
  · obtain ⟨e, a1, a2, a3, a4⟩ := I.pin p hp
    exact ⟨PySem.W.hideAll_get l e (np p hp), a1, a2, a3, a4⟩
  · refine (I.hok b o e).stay (fun c u hc hg => PySem.W.hideAll_get l hg (fun m => ?_)) (fun _ h => h) (fun _ _ h => h)
    have := na c m
    rcases hc with rfl | hc
    · rw [e] at this; cases this
    · rw [hc] at this; cases this
/-- raise, in a suite: what was caught flies on -/
theorem reraise_wp {Wout : WX} {a T : Addr} {oe oT : Obj} {vs ts : Array Value} {fl : Value} {cls : Value} {d : Option Addr} {pins6 : List (Addr × Obj)} {pos : Pos} {Q : Flow → Shared → Prop} (hf : X.env.frame = some X.env.locals) (tk : L2.Takes X Wout) (ok : X.Ok)
    (I : Inv (suiteX X a ((a, oe) :: (T, oT) :: (X.pn ++ pins))) pins6 σ H s) (hz : Zc cls d oe) (hd : oe.data = .fields vs) (h1 : vs[1]? = some (.ref T)) (hTa : T ≠ a) (hdT : oT.data = .fields ts) (h3 : ts[3]? = some fl)
    (n0 : X.s_0.heap.get? a = none) (n0T : X.s_0.heap.get? T = none) (np : ∀ p ∈ X.pn ++ pins, p.1 ≠ a ∧ p.1 ≠ T) (nf : a ∉ frs X.stack) (nfT : T ∉ frs X.stack) (w : Wout cls d σ H) :
    wpAny (model X.prog X.w) (X.A.mark (some (.ref a))) (exec (.Raise none none pos) X.env) Q X.xe s := by
  have Pa := I.pin (a, oe) (List.mem_append_left _ List.mem_cons_self)
  have PT := I.pin (T, oT) (List.mem_append_left _ (List.mem_cons_of_mem _ List.mem_cons_self))
  have J : Inv X pins σ H s := ⟨ok, I.os, I.bare, I.base, I.loc, I.cell, I.free, I.freeC, fun p hp => I.pin p (List.mem_append_left _ (List.mem_cons_of_mem _ (List.mem_cons_of_mem _ hp))), I.hok, I.len⟩
  refine wpAny_Raise_bare ?_
  unfold raiseBare raiseStmt
  dsimp only
  refine wpAny_bind (wpAny_handled ?_)
  rw [show (X.A.mark (some (.ref a))).handled = some (.ref a) from rfl]
  dsimp only
  refine wpAny_bind (wpAny_rule ?_)
  refine wpAny_bind (wpAny_field Pa.1 hd h1 ?_)
  rw [if_neg (show ¬ ((Value.ref T == Value.none) = true) from by simp)]
  rw [hf]
  have hB : ∀ b, b ∈ a :: T :: frs X.stack → (PySem.W.hideAll s.heap (a :: T :: frs X.stack)).get? b = none := fun b hb => PySem.W.hideAll_none _ hb
  have fin : wpAny (model X.prog X.w) (X.A.mark (some (.ref a))) (setFlight (.ref a) (some X.env.locals)) (fun _ s4 => wpAny (model X.prog X.w) (X.A.mark (some (.ref a))) (throw (.ref a) : Sem Flow) Q X.xe s4) X.xe s := by
    refine HandSPX.setFlight_anyZ (base := PySem.W.hideAll s.heap (a :: T :: frs X.stack)) (l := X.stack) (Z := Zc cls d) (fl := fl) (fun b o e => PySem.W.of_hideAll _ e) (funFrames_none J.stack fun L hL => hB L (List.mem_cons_of_mem _ (List.mem_cons_of_mem _ hL)))
      ⟨oe, vs, T, oT, ts, Pa.1, hz, hd, h1, hB T (List.mem_cons_of_mem _ List.mem_cons_self), hTa, PT.1, hdT, h3⟩ fun h' k1 k2 k3 k4 => wpAny_throw (tk _ _ ?_)
    have I2 : Inv X pins σ H { s with heap := PySem.W.hideAll s.heap [a, T] } := by
      refine inv_hide J [a, T] (fun b hb => ?_) (fun m => ?_) (fun b hb v ic => ?_) (fun b hb => ?_) (fun p hp m => ?_)
      · simp only [List.mem_cons, List.not_mem_nil, or_false] at hb
        rcases hb with rfl | rfl
        · exact Pa.2.1
        · exact PT.2.1
      · simp only [List.mem_cons, List.not_mem_nil, or_false] at m
        rcases m with m | m
        · exact Pa.2.2.1 m.symm
        · exact PT.2.2.1 m.symm
      · obtain ⟨o, e1, e2⟩ := ic
        simp only [List.mem_cons, List.not_mem_nil, or_false] at hb
        rcases hb with rfl | rfl
        · rw [Pa.1] at e1; cases e1; exact Pa.2.2.2.2 v e2
        · rw [PT.1] at e1; cases e1; exact PT.2.2.2.2 v e2
      · simp only [List.mem_cons, List.not_mem_nil, or_false] at hb
        rcases hb with rfl | rfl
        · exact n0
        · exact n0T
      · simp only [List.mem_cons, List.not_mem_nil, or_false] at m
        rcases m with m | m
        · exact (np p hp).1 m
        · exact (np p hp).2 m
    refine ⟨a, PySem.W.hideAll s.heap (a :: T :: frs X.stack), { s with heap := PySem.W.hideAll s.heap [a, T] }, pins, σ, H, cls, d, rfl, I2, fun b o e hb => ?_, fun b o e nd => k4 b o (PySem.W.of_hideAll _ e) nd, .inr (.inr ⟨k1, hB a List.mem_cons_self, k2, k3⟩), Pa.2.1, rfl, I.bare, w⟩
    refine PySem.W.hideAll_get _ (PySem.W.of_hideAll _ e) fun m => ?_
    rcases List.mem_cons.mp m with rfl | m
    · have := PySem.W.hideAll_none [b, T] (h := s.heap) (b := b) List.mem_cons_self
      rw [this] at e; cases e
    · rcases List.mem_cons.mp m with rfl | m
      · have := PySem.W.hideAll_none [a, b] (h := s.heap) (b := b) (List.mem_cons_of_mem _ List.mem_cons_self)
        rw [this] at e; cases e
      · exact hb m
  first
    | exact wpAny_bind fin
    | exact wpAny_bind (wpAny_pure (wpAny_bind fin))
end
end Dl

set_option Elab.async false
set_option linter.all false
set_option maxRecDepth 100000
set_option maxHeartbeats 4000000
namespace Dl
open PySem PySem.Spec PyProof.Rows L2 HotX L2H
section
variable {X : Cx} {x : Str} {c : Value} {body suite : List Stmt} {b₀ : Stmt} {np pos pos' rp : Pos} {tb : WX → TS} {ts : Addr → Value → Option Addr → TS} {Wout : WX}
/-- try: body, except x: a suite that may raise again -/
theorem ps_try_again (hs : X.stack = X.env :: X.outer) (hf : X.env.frame = some X.env.locals) (hex : X.ex = []) (hc : Names X x c) (hpa : ∀ hd : Option Value, PassesOwnAt (model X.prog X.w) (X.A.mark hd) X.A X.env X.xe) (tk : L2.Takes X Wout)
    (hb : ∀ (W : WX) (pn : List (Addr × Obj)) (xe : Value → Shared → Prop), L2N.Takes (X.tr pn xe) W → PassesOwn (model X.prog X.w) X.A X.env xe → PSs (X.tr pn xe) body (tb W))
    (hsu : ∀ (a : Addr) (oe : Obj) (cls : Value) (d : Option Addr) (pn : List (Addr × Obj)), L2N.Zn cls d oe → (∃ vs, oe.data = .fields vs) → HotC (suiteX X a ((a, oe) :: pn)) → PS (suiteX X a ((a, oe) :: pn)) (.Raise none none rp) (fun _ σ H => Wout cls d σ H) →
      PSs (suiteX X a ((a, oe) :: pn)) (b₀ :: suite) (ts a cls d)) :
    PS X (.Try body [.ExceptHandler (some (.Name x np)) none (b₀ :: suite) pos'] [] [] pos) (fun D σ H => tb (wOnly X.K c ts Wout D) D σ H) := by
  refine ⟨fun pins s σ H D I h => ?_⟩
  have ok := I.ok
  have hfr : X.A.frames = some (X.env :: X.outer) := by rw [ok.frames, hs]
  have notFr : ∀ {B h : Heap} {a : Addr} {o : Obj} {vs : Array Value}, h.FunFrames B (X.env :: X.outer) → h.get? a = some o → o.data = .fields vs → a ∉ frs (X.env :: X.outer) := fun {B h a o vs} ff e dd hm => by
    obtain ⟨_, o', e', hnf⟩ := ff.mem hm
    rw [e] at e'; cases e'
    exact hnf _ dd
  refine wpAny_Try_except ?_
  refine wpAny_mono ((hb (wOnly X.K c ts Wout D) (X.pn ++ pins) (fun e s₁ => wpAny (model X.prog X.w) X.A (noteFrame e X.env) (fun _ s₂ => wpAny (model X.prog X.w) X.A (setFlight e none) (fun _ s₃ =>
    wpAny (model X.prog X.w) X.A (handleBy e X.env [.ExceptHandler (some (.Name x np)) none (b₀ :: suite) pos']) (SP X pins D) X.xe s₃) X.xe s₂) X.xe s₁) (fun u s' xx => ?_) PassesOwn.looking).run [] s σ H D (I.toTry _) h) (fun f s1 hsp => ?_) (fun e s1 he => he)
  · obtain ⟨a, B, sI, pins', σ', H', cls, d, rfl, J', nb, up, sky, na, os, ag, b, hb1, hyes, hno⟩ := xx
    have J : Inv X pins σ' H' sI := J'.ofTry ok
    have sky' : Sky B (X.env :: X.outer) a (L2N.Zn cls d) X.env.locals s'.heap := by rw [← hs]; exact sky
    show wpAny (model X.prog X.w) X.A (noteFrame (.ref a) X.env) _ _ _
    refine L2N.Sky.land L2N.Zn.steady hfr hf sky' fun h3 fl3 up3 => ?_
    have J3 : Inv X pins σ' H' { s' with heap := h3 } := J.landed nb fl3.1 (up.trans up3) os ag
    obtain ⟨oe3, vs3, he3, hz3, hd3⟩ := fl3.there
    have nfr : a ∉ frs (X.env :: X.outer) := notFr fl3.2.2.1 he3 hd3
    have nL : a ≠ X.env.locals := fun z => nfr (List.mem_filterMap.mpr ⟨X.env, List.mem_cons_self, by rw [hf, z]⟩)
    have nF : a ∉ X.fs := fun hm => by
      obtain ⟨e, he, q⟩ := List.mem_filterMap.mp hm
      exact nfr (List.mem_filterMap.mpr ⟨e, List.mem_cons_of_mem _ he, q⟩)
    have S3 := J3.suite he3 hd3 na nL nF
    refine wpAny_handleBy_cons (codeAny_handlers_test ?_) (by intro q; cases q)
    have LT : PySem.W.Looks (model X.prog X.w) h3 (typeOf (.ref a)) cls := fun A Q E s k q => wpAny_typeOf_ref (k _ _ he3) (by rw [hz3.1]; exact q)
    have LM := PySem.W.exm_one (M := model X.prog X.w) (J3.kIn) LT hb1
    have test : ∀ {Q : Value → Shared → Prop} {E : Value → Shared → Prop}, Q c { s' with heap := h3 } → wpAny (model X.prog X.w) (X.A.mark (some (.ref a))) (eval (.Name x np) X.env) Q E { s' with heap := h3 } := fun {Q E} q => by
      obtain ⟨hg, hdbg, hm | ⟨hm, hv, hnn⟩⟩ := hc
      · exact ld_glob (X := X.suite a ((a, oe3) :: (X.pn ++ pins))) S3 hg hm q hdbg
      · exact ld_blt (X := X.suite a ((a, oe3) :: (X.pn ++ pins))) S3 hg hm hv q hnn hdbg
    refine test (LM.here ?_)
    cases b with
    | true =>
      refine codeAny_handlers_suite ?_
      refine HandSPX.lands_againZ fl3 fun h4 fl4 up4 => ?_
      have J4 : Inv X pins σ' H' { s' with heap := h4 } := J.landed nb fl4.1 ((up.trans up3).trans up4) os ag
      obtain ⟨st4, bn4, ff4, oe4, vs4, T, oT, ts4, he4, hz4, hd4, h14, hBT, hTa, hT4, hdT, h3T⟩ := id fl4
      have nfT : T ∉ frs (X.env :: X.outer) := notFr ff4 hT4 hdT
      have nTL : T ≠ X.env.locals := fun z => nfT (List.mem_filterMap.mpr ⟨X.env, List.mem_cons_self, by rw [hf, z]⟩)
      have nTF : T ∉ X.fs := fun hm => by
        obtain ⟨e, he, q⟩ := List.mem_filterMap.mp hm
        exact nfT (List.mem_filterMap.mpr ⟨e, List.mem_cons_of_mem _ he, q⟩)
      have gone : ∀ b, B.get? b = none → b ∉ frs (X.env :: X.outer) → sI.heap.get? b = none := fun b hb hn => by
        cases q : sI.heap.get? b with
        | none => rfl
        | some o =>
          have := nb b o q (by rw [hs]; exact hn)
          rw [hb] at this; cases this
      have ga := gone a bn4 nfr
      have gT := gone T hBT nfT
      have naT : H' T = none := J.hok.gone gT
      have z0 : ∀ b, sI.heap.get? b = none → X.s_0.heap.get? b = none := fun b hb => by
        cases q : X.s_0.heap.get? b with
        | none => rfl
        | some o =>
          obtain ⟨o', e⟩ := J.base.there b o q (by rw [hex]; simp)
          rw [hb] at e; cases e
      have np : ∀ p ∈ X.pn ++ pins, p.1 ≠ a ∧ p.1 ≠ T := fun p hp => by
        have e := (J.pin p hp).1
        exact ⟨(fun z => by rw [z, ga] at e; cases e), (fun z => by rw [z, gT] at e; cases e)⟩
      have S4 : Inv (suiteX X a ((a, oe4) :: (T, oT) :: (X.pn ++ pins))) [] σ' H' { s' with heap := h4 } := suiteX_of ⟨J4.ok.suite _ _, J4.os, J4.bare, J4.base, J4.loc, J4.cell, J4.free, J4.freeC, fun p hp => by
        have hp' : p ∈ (a, oe4) :: (T, oT) :: (X.pn ++ pins) := by rw [List.append_nil] at hp; exact hp
        rcases List.mem_cons.mp hp' with e | h
        · rw [e]; exact ⟨he4, na, nL, nF, fun v z => by have z' : oe4.data = .cell v := z; rw [hd4] at z'; cases z'⟩
        · rcases List.mem_cons.mp h with e | h
          · rw [e]; exact ⟨hT4, naT, nTL, nTF, fun v z => by have z' : oT.data = .cell v := z; rw [hdT] at z'; cases z'⟩
          · exact J4.pin p h, J4.hok, J4.len⟩
      have hot : HotC (suiteX X a ((a, oe4) :: (T, oT) :: (X.pn ++ pins))) := ⟨(a, oe4), ⟨rfl, vs4, hd4, hz4.2.2 vs4 hd4⟩, List.mem_cons_self⟩
      have re : PS (suiteX X a ((a, oe4) :: (T, oT) :: (X.pn ++ pins))) (.Raise none none rp) (fun _ σ H => Wout cls d σ H) := ⟨fun pins6 s6 σ6 H6 D6 I6 w6 =>
        reraise_wp (X := X) (pins := pins) hf tk ok I6 hz4.zc hd4 h14 hTa hdT h3T (z0 a ga) (z0 T gT) np (by rw [hs]; exact nfr) (by rw [hs]; exact nfT) w6⟩
      have un : ∀ {σ6 : L2.St} {H6 : Hp} {s6 : Shared} {pn6 : List (Addr × Obj)}, Inv (suiteX X a ((a, oe4) :: (T, oT) :: (X.pn ++ pins))) pn6 σ6 H6 s6 → Inv X pins σ6 H6 s6 := fun I6 => ⟨ok, I6.os, I6.bare, I6.base, I6.loc, I6.cell, I6.free, I6.freeC, fun p hp => I6.pin p (List.mem_append_left _ (List.mem_cons_of_mem _ (List.mem_cons_of_mem _ hp))), I6.hok, I6.len⟩
      refine wpAny_mono ((hsu a oe4 cls d ((T, oT) :: (X.pn ++ pins)) hz4 ⟨_, hd4⟩ hot re).run [] _ _ H' _ S4 (hyes rfl a na)) (fun f s6 hsp => ?_) (fun e6 s6 z => hpa (some (.ref a)) e6 s6 z)
      cases f with
      | next =>
        obtain ⟨σ6, H6, S6, q6⟩ := hsp
        exact ⟨_, _, un S6, q6⟩
      | brk =>
        obtain ⟨σ6, H6, S6, q6⟩ := hsp
        exact ⟨_, _, un S6, q6⟩
      | cont =>
        obtain ⟨σ6, H6, S6, q6⟩ := hsp
        exact ⟨_, _, un S6, q6⟩
      | ret u =>
        obtain ⟨v6, σ6, H6, S6, r6, q6⟩ := hsp
        exact ⟨_, _, _, un S6, r6, q6⟩
    | false =>
      refine wpAny_handleBy_nil ?_
      have fl3' : HandSPX.FlyingZ B (X.env :: X.outer) a (Zc cls d) h3 := flyingZ_imp (fun o z => z.zc) fl3
      obtain ⟨k1, k2, k3, oe, vs, T, oT, ts', he, hz, hd, h1, hr⟩ := id fl3'
      unfold PySem.passOn
      refine wpAny_bind (wpAny_field he hd h1 ?_)
      rw [if_neg (show ¬ ((Value.ref T == Value.none) = true) from by simp)]
      have fin : wpAny (model X.prog X.w) X.A (setFlight (.ref a) X.env.frame) (fun _ s4 => wpAny (model X.prog X.w) X.A (throw (.ref a) : Sem Flow) (SP X pins D) X.xe s4) X.xe { s' with heap := h3 } := by
        rw [hf]
        refine HandSPX.setFlight_upZ fl3' fun h4 hh4 up4 => wpAny_throw (tk _ _ ?_)
        exact ⟨a, B, sI, pins, σ', H', cls, d, rfl, J, nb, (up.trans up3).trans up4, .inr (.inr (by rw [hs]; exact hh4)), na, os, ag, hno rfl⟩
      first
        | exact wpAny_bind (wpAny_pure (wpAny_bind fin))
        | exact wpAny_bind fin
  · cases f with
    | next =>
      obtain ⟨σ', H', J', q⟩ := hsp
      exact wpAny_execs_nil ⟨σ', H', J'.ofTry ok, q⟩
    | brk =>
      obtain ⟨σ', H', J', q⟩ := hsp
      exact ⟨σ', H', J'.ofTry ok, q⟩
    | cont =>
      obtain ⟨σ', H', J', q⟩ := hsp
      exact ⟨σ', H', J'.ofTry ok, q⟩
    | ret u =>
      obtain ⟨v, σ', H', J', r, q⟩ := hsp
      exact ⟨v, σ', H', J'.ofTry ok, r, q⟩
end
section
variable {X : Cx} {x : Str} {c : Value} {body : List Stmt} {st : Stmt} {np pos pos' rp : Pos} {Wout : WX} {F : Fam Sy}
/-- try: body, except x: st; raise -/
def yTryA (K : PySem.W.Frag) (c : Value) (tb tst : TDSS Sy) : TDSS Sy := fun e τ ρ => tb ⟨e.nx, e.rt, fun C τ' ρ' => PySem.W.exmOne K (.ref C) c = some true ∧ tst ⟨fun τ'' ρ'' => e.xc C τ'' ρ'', fun _ _ => False, fun _ _ _ => False⟩ τ' ρ'⟩ τ ρ
theorem y_try_again {tb tst : TDSS Sy} (hs : X.stack = X.env :: X.outer) (hf : X.env.frame = some X.env.locals) (hex : X.ex = []) (hc : Names X x c) (hpa : ∀ hd : Option Value, PassesOwnAt (model X.prog X.w) (X.A.mark hd) X.A X.env X.xe) (tk : L2.Takes X Wout)
    (hb : ∀ (W : WX) (pn : List (Addr × Obj)) (xe : Value → Shared → Prop), L2N.Takes (X.tr pn xe) W → PassesOwn (model X.prog X.w) X.A X.env xe → YSs (X.tr pn xe) F W body tb)
    (hst : ∀ (a : Addr) (oe : Obj) (pn : List (Addr × Obj)), HotC (suiteX X a ((a, oe) :: pn)) → YS (suiteX X a ((a, oe) :: pn)) F (fun _ _ _ _ => False) st tst) :
    YS X F Wout (.Try body [.ExceptHandler (some (.Name x np)) none [st, .Raise none none rp] pos'] [] [] pos) (yTryA X.K c tb tst) :=
  PS_imp (ps_try_again (rp := rp) (tb := fun W' => tDSS X.K F W' tb) (ts := fun a cls d D σ H => ∃ (τ : Sy) (ρ : DE) (e : Addr → Sy → DE → Prop) (C : Addr), cls = .ref C ∧ d = none ∧ REnv X.K (F.av τ) H σ ρ ∧ F.S τ H ∧ tst ⟨fun τ'' ρ'' => e C τ'' ρ'', fun _ _ => False, fun _ _ _ => False⟩ τ ρ ∧ ∀ τ' ρ' σ' H', e C τ' ρ' → REnv X.K (F.av τ') H' σ' ρ' → Step F τ H τ' H' → F.S τ' H' → Wout (.ref C) none σ' H') hs hf hex hc hpa tk hb (fun a oe cls d pn hz hd hot re => PSs_imp (pss_cons (hst a oe pn hot) (pss_one re)) fun D σ H ⟨τ, ρ, e, C, ec, ed, r, s, w, f⟩ => by
      subst ec; subst ed
      exact ⟨τ, ρ, _, r, s, w, ⟨fun τ' ρ' σ' H' w' r' e' s' => f τ' ρ' σ' H' w' r' e' s', fun _ _ _ _ z => z.elim, fun _ _ _ _ _ z => z.elim⟩⟩)) fun E σ H ⟨τ, ρ, e, r, s, w, f⟩ => by
    refine ⟨τ, ρ, _, r, s, w, ⟨f.nx, f.rt, ?_⟩⟩
    rintro C τ' ρ' σ' H' ⟨hm, hall⟩ r' e' s'
    refine ⟨true, hm, fun _ a na => ⟨τ', ρ', e.xc, C, rfl, rfl, r', s', hall, fun τ'' ρ'' σ'' H'' w'' r'' e'' s'' => f.xc C τ'' ρ'' σ'' H'' w'' r'' (e'.trans e'') s''⟩, fun z => nomatch z⟩
end
end Dl

set_option Elab.async false
set_option linter.all false
set_option maxRecDepth 100000
set_option maxHeartbeats 4000000
namespace Dl
open PySem PySem.Spec PyProof.Rows L2
/-! ## methods that raise nothing, here and while an error is handled; defs whose errors have no context -/
structure FnXN (P : Program) (w : World) (K : PySem.W.Frag) (mg : Str → Option Value) (base : Heap) (k : Nat) (f : Addr) (fd : FuncData) (ps : List Str) (sp : Sp) : Prop where
  len : ∀ vs H Q E, sp vs H Q E → vs.length = ps.length
  run : ∀ (A : Around) (outer : List Env) (s : Shared) (H : Hp) (args : Args) (us : List Value) (vs : List V) (Q : VK) (E : XK), Room k A → A.guards = some [] → Env0 P w K mg base A outer s H → BindsTo s fd args (ps.zip us) → Vals vs us → sp vs H Q E →
    codeAny (model P w) A (.call (.ref f) args) (CR (L2N.CX P w) outer P w H s Q E) s
theorem fn_ofN {P : Program} {w : World} {K : PySem.W.Frag} {mg : Str → Option Value} {base : Heap} {k : Nat} {f : Addr} {name qual : Str} {params : Arguments} {body : List Stmt} {scope : Scope} {dV kV doc pm cdv ct oc : Value} {an od : Option Addr}
    {osl : Array (Option Value)} {N ps : List Str} {sp : Sp} (lk : K.lookup f = some ⟨oc, od, .func (PySem.W.fnOf name qual params body scope dV kV doc pm an cdv ct), osl⟩) (hcd : PySem.W.codeIn K cdv qual = true) (S : FnScope N ps scope)
    (len : ∀ vs H Q E, sp vs H Q E → vs.length = ps.length)
    (hbody : ∀ (A : Around) (outer : List Env) (s : Shared) (H : Hp) (vs : List V) (Q : VK) (E : XK), Room k (A.deeper (envOfC qual scope s.heap.objs.size f cdv)) → A.guards = some [] → sp vs H Q E →
      ∃ t, PSs (cxOf (L2N.CX P w) P w K mg base N qual scope f cdv A outer s H E) body t ∧ t { nx := fun _ H' => Q .non H', rt := Q } (L2.start N vs) H) :
    FnXN P w K mg base (k + 1) f (PySem.W.fnOf name qual params body scope dV kV doc pm an cdv ct) ps sp := by
  refine ⟨len, fun A outer s H args us vs Q E hr hgd e0 hb r hsp => ?_⟩
  have hl := len _ _ _ _ hsp
  have KX : K.In s.heap := e0.mod.kin.keeps fun b o e => (e0.bs b o e).1
  have lim : s.heap.NoLimit := e0.mod.nolimit.keeps fun b o e => (e0.bs b o e).1
  have hkind : ∀ y ∈ ps.zip us, scope.names.lookup y.1 = some .local ∨ (scope.names.lookup y.1 = some .cell ∧ ((cellsFrom (s.heap.objs.size + 1) scope.names []).lookup y.1).isSome = true) := fun ⟨n, v⟩ hy => by
    rcases S.par n (List.of_mem_zip hy).1 with q | q
    · exact .inl q
    · exact .inr ⟨q, PySem.W.cellsFrom_some _ _ _ (.inl q)⟩
  refine codeAny_call_function hr.depth (KX _ _ lk) rfl S.co S.gen rfl (PySem.W.codeRec_of KX hcd) (hb _ _ _ _ ?_)
  refine wpAny_newFunctionEnv_cells S.kind hkind fun env he s1 x => ?_
  subst he
  refine ⟨lim.keeps x.toInCall.keep, codeAny_func ?_⟩
  obtain ⟨t, ht, hq⟩ := hbody A outer s H vs Q E (hr.deeper _) hgd hsp
  have I : Inv (cxOf (L2N.CX P w) P w K mg base N qual scope f cdv A outer s H E) [] (L2.start N vs) H s1 := inv_start S hr.hd e0 hl r x
  refine wpAny_mono (ht.run [] s1 (L2.start N vs) H _ I hq) (fun fl s' hs => ?_) fun e s' hs => hs
  have fin : ∀ {σ' : L2.St} {H' : Hp} {v : V} {u : Value}, Inv (cxOf (L2N.CX P w) P w K mg base N qual scope f cdv A outer s H E) [] σ' H' s' → RelV v u → Q v H' → CE outer P w H s Q u s' :=
    fun {σ' H' v u} J rv q => ⟨v, H', J.os, J.bare, J.base, J.hok, rv, q⟩
  cases fl with
  | ret u =>
    obtain ⟨v, σ', H', J, rv, q⟩ := hs
    exact fin J rv q
  | next =>
    obtain ⟨σ', H', J, q⟩ := hs
    exact fin (v := V.non) (u := Value.none) J rfl q
  | brk =>
    obtain ⟨_, _, _, q⟩ := hs
    exact False.elim q
  | cont =>
    obtain ⟨_, _, _, q⟩ := hs
    exact False.elim q

theorem FnXN.toX {P : Program} {w : World} {K : PySem.W.Frag} {mg : Str → Option Value} {base : Heap} {k : Nat} {f : Addr} {fd : FuncData} {ps : List Str} {sp : Sp} (F : FnXN P w K mg base k f fd ps sp) : FnX P w K mg base k f fd ps sp :=
  ⟨F.len, fun A outer s H args us vs Q E hr hg e0 hb r h => codeAny_mono (F.run A outer s H args us vs Q E hr hg e0 hb r h) fun q s' hq => by
    cases q with
    | ok fl => cases fl <;> exact hq
    | error u =>
      obtain ⟨a, B, H', cls, d, e, fl, rest⟩ := hq
      exact ⟨a, B, H', cls, d, e, L2H.flyingZ_imp (fun o z => z.zc) fl, rest⟩⟩
section
variable {P : Program} {w : World} {K : PySem.W.Frag} {mg : Str → Option Value} {base : Heap}
theorem takes_fnN {N : List Str} {qual : Str} {scope : Scope} {f : Addr} {cdv : Value} {A : Around} {outer : List Env} {s : Shared} {H : Hp} {E : XK} : L2N.Takes (cxOf (L2N.CX P w) P w K mg base N qual scope f cdv A outer s H E) (fun cls d _ H' => E cls d H') :=
  L2N.takes_of (E := E) rfl rfl rfl rfl
theorem FunY.okN {T : Type} {F : Fam T} {x qual : Str} {st : Stmt} {f : Addr} {fd : FuncData} {N ps : List Str} {k : Nat} {Fd : DCallY T} (G : Fun K x qual st f fd) (S : FnScope N ps (defScope st)) (len : ∀ ds τ q x, Fd ds τ q x → ds.length = ps.length)
    (hbody : ∀ (cdv : Value) (A : Around) (outer : List Env) (s : Shared) (H : Hp) (E : XK) (ds : List D) (τ : T) (q : T → D → Prop) (x : Addr → T → Prop), Room k (A.deeper (envOfC qual (defScope st) s.heap.objs.size f cdv)) → A.guards = some [] → Fd ds τ q x →
      ∃ t, YSs (cxOf (L2N.CX P w) P w K mg base N qual (defScope st) f cdv A outer s H E) F (fun cls d _ H' => E cls d H') (defBody st) t ∧ t ⟨fun τ' _ => q τ' .non, q, fun C τ' _ => x C τ'⟩ τ (startD N ds)) : FnXN P w K mg base (k + 1) f fd ps (spY K F Fd) := by
  obtain ⟨oc, od, kV, doc, pm, an, cdv, ct, osl, rfl, lk, hcd⟩ := G.ex
  refine fn_ofN lk hcd S (fun vs H Q E ⟨ds, τ, q, x, r, _, h, _⟩ => by rw [r.length]; exact len ds τ q x h) fun A outer s H vs Q E hr hg ⟨ds, τ, q, x, r, o, h, f1, g1⟩ => ?_
  obtain ⟨t, ht, hq⟩ := hbody cdv A outer s H E ds τ q x hr hg h
  exact ⟨_, ht, τ, _, _, start_env (R := F.at τ) r, o, hq, ⟨fun τ' ρ σ H' w' r' e' s' => f1 τ' _ _ H' w' .non e' s', f1, fun C τ' ρ σ H' hx r' e' s' => g1 C τ' H' hx e' s'⟩⟩
/-- a def called while an error is handled; it raises nothing -/
theorem FunY.okH {T : Type} {F : Fam T} {x qual : Str} {st : Stmt} {f : Addr} {fd : FuncData} {N ps : List Str} {k : Nat} {Fd : DCallY T} (G : Fun K x qual st f fd) (S : FnScope N ps (defScope st)) (len : ∀ ds τ q x, Fd ds τ q x → ds.length = ps.length)
    (hbody : ∀ (cdv : Value) (A : Around) (outer : List Env) (s : Shared) (H : Hp) (E : XK) (p : Addr × Obj) (ds : List D) (τ : T) (q : T → D → Prop) (x : Addr → T → Prop), L2H.HotC (L2H.cxH CX0 P w K mg base N qual (defScope st) f cdv A outer s H E p) → L2H.RoomH k (A.deeper (envOfC qual (defScope st) s.heap.objs.size f cdv)) → Fd ds τ q x →
      ∃ t, YSs (L2H.cxH CX0 P w K mg base N qual (defScope st) f cdv A outer s H E p) F (fun _ _ _ _ => False) (defBody st) t ∧ t ⟨fun τ' _ => q τ' .non, q, fun _ _ _ => False⟩ τ (startD N ds)) : L2H.FnH P w K mg base CX0 (k + 1) f fd ps (spY K F Fd) := by
  obtain ⟨oc, od, kV, doc, pm, an, cdv, ct, osl, rfl, lk, hcd⟩ := G.ex
  refine L2H.fn_ofH lk hcd S (fun vs H Q E ⟨ds, τ, q, x, r, _, h, _⟩ => by rw [r.length]; exact len ds τ q x h) fun A outer s H vs Q E p hot hr ⟨ds, τ, q, x, r, o, h, f1, g1⟩ => ?_
  obtain ⟨t, ht, hq⟩ := hbody cdv A outer s H E p ds τ q x ⟨p, hot, List.mem_cons_self⟩ hr h
  exact ⟨_, ht, τ, _, _, start_env (R := F.at τ) r, o, hq, ⟨fun τ' ρ σ H' w' r' e' s' => f1 τ' _ _ H' w' .non e' s', f1, fun _ _ _ _ _ z => z.elim⟩⟩
structure MethN (P : Program) (w : World) (K : PySem.W.Frag) (mg : Str → Option Value) (base : Heap) (C : Addr) (m : Str) (ps : List Str) (k : Nat) (sp : Sp) : Prop where
  ex : ∃ (f : Addr) (fd : FuncData), FnXN P w K mg base k f fd ps sp ∧ Meth K C m f ∧ Binds K fd ps []
theorem MethN.toX {C : Addr} {m : Str} {ps : List Str} {k : Nat} {sp : Sp} (G : MethN P w K mg base C m ps k sp) : MethX P w K mg base C m ps k sp := by
  obtain ⟨f, fd, a, b, c⟩ := G.ex
  exact ⟨f, fd, a.toX, b, c⟩
structure MethH (P : Program) (w : World) (K : PySem.W.Frag) (mg : Str → Option Value) (base : Heap) (C : Addr) (m : Str) (ps : List Str) (k : Nat) (sp : Sp) : Prop where
  ex : ∃ (f : Addr) (fd : FuncData), L2H.FnH P w K mg base CX0 k f fd ps sp ∧ Meth K C m f ∧ Binds K fd ps []
end
section
variable {X : Cx} {R0 : Res} {h0 : ∀ H, R0.Ss H} {W : WX} {pos : Pos} {R : Res} {τ : Sy} {F : Fam Sy}
theorem run_fnN {k : Nat} {f : Addr} {fd : FuncData} {ps : List Str} {sp : Sp} {E : L2.St → XK} {pins : List (Addr × Obj)} {σ : L2.St} {H : Hp} {s : Shared} {Q : VK} {us : List Value} {vs : List V} {args : Args} (F : FnXN X.prog X.w X.K X.mg X.base k f fd ps sp) (hr : Room k X.A) (hg : X.A.guards = some []) (hb : us.length = ps.length → BindsTo s fd args (ps.zip us)) (hx : PassesAt (L2N.CX X.prog X.w) X σ (E σ))
    (I : Inv X pins σ H s) (r : Vals vs us) (h : sp vs H Q (E σ)) : wpAny (model X.prog X.w) X.A (call (.ref f) args.pos args.kw) (EP X pins σ Q) X.xe s := by
  have hl : us.length = ps.length := by rw [← r.length]; exact F.len _ _ _ _ h
  refine wpAny_call (codeAny_mono (F.run X.A X.stack s H args us vs Q (E σ) hr hg I.env0 (hb hl) r h) fun r s' hq => ?_)
  cases r with
  | error e => exact hx pins H s e s' I hq
  | ok fl =>
    cases fl with
    | ret u => exact I.after hq
    | next => exact False.elim hq
    | brk => exact False.elim hq
    | cont => exact False.elim hq

theorem y_raiseN {T : Type} {F : Fam T} {C : Addr} {bmB : List Value} {B newId initId : String} {x m : Str} {j : Nat} {p p2 pos1 : Pos} (hc : X.calm = true) (tk : L2N.Takes X W) (Fb : ExcBaseFacts B newId initId bmB) (q : PySem.W.excIn X.K C bmB newId = true) (gC : X.mg x = some (.ref C)) (kC : PySem.W.keepIn X.K (.ref C) = true) (r : Raises X (.ref C)) (hg : Gl X x := by rfl)
    (hdb : (x == ("__debug__" : Str)) = false := by decide) : YS X F W (.Raise (some (.Call (.Name x p) [.Constant (.str m) j p2] [] pos)) none pos1) (fun en τ ρ => en.xc C τ ρ) :=
  PS_imp (L2N.ps_raise hc tk (L2N.pmk_own Fb q gC kC r hg hdb)) fun E σ H ⟨τ, ρ, en, r, s, w, f⟩ => f.xc C τ ρ σ H w r .refl s
def cMethS (C : Addr) (m : Str) (Fd : DCallY Sy) (to : Sy → TDE) (t : TDYA) : TDY Sy := fun τ ρ q x => to τ ρ fun od => ∃ a dx fs, od = .ptr a ∧ sget τ a = some (.ins C dx fs) ∧ fs.lookup m = none ∧ t τ ρ (fun τ1 ds => Fd (.ptr a :: ds) τ1 q (fun _ _ => False)) x
def cMeth0S (C : Addr) (m : Str) (Fd : DCallY Sy) (to : Sy → TDE) : TDY Sy := fun τ ρ q x => to τ ρ fun od => ∃ a dx fs, od = .ptr a ∧ sget τ a = some (.ins C dx fs) ∧ fs.lookup m = none ∧ Fd [.ptr a] τ q (fun _ _ => False)
theorem c_methS {C : Addr} {k : Nat} {m : Str} {o e : Expr} {es : List Expr} {apos : Pos} {pl : Sem Bool} {to : Sy → TDE} {t : TDYA} {Fd : DCallY Sy} {ps : List Str} (ho : ∀ τ, EE X ((SF X.K R0 h0).at τ) o (to τ)) (c : Cls X.K C) (G : MethX X.prog X.w X.K X.mg X.base C m ps k (spY X.K (SF X.K R0 h0) Fd)) (hr : Room k X.A) (hgd : X.A.guards = some []) (ha : YA X (SF X.K R0 h0) W (e :: es) t)
    (hst : starEach (e :: es) X.env = (false, eval e X.env) :: starEach es X.env := by rfl) (hpl : (backTo pos (starEach es X.env)).any (·.1) = false := by rfl)
    (ht : eval (.Call (.Attribute o m apos) (e :: es) [] pos) X.env = (do
      let ov ← eval o X.env
      standAt apos.atName
      let (f, first) ← holding [ov] (getMethod ov m pl)
      callWith pos f first (backTo pos (starEach (e :: es) X.env)) (backToKw pos (keywordEach [] X.env))) := by rfl) :
    YC X (SF X.K R0 h0) W (.Call (.Attribute o m apos) (e :: es) [] pos) (cMethS C m Fd to t) := by
  obtain ⟨f, fd, G, hm, hb⟩ := G.ex
  refine ⟨fun pins s σ H Q I ⟨τ, ρ, q, x, r, sS, w, f1, g1⟩ => ?_⟩
  refine PySem.W.methodCall_KW (pl := pl) (thn ((y_all ho).run pins s σ H (fun v H1 => ∃ a dx gs, v = .ref a ∧ H1 a = some (.ins C dx gs) ∧ gs.lookup m = none ∧ tDYA X.K (SF X.K R0 h0) W t σ H1 fun vs H2 => spY X.K (SF X.K R0 h0) Fd (.ref a :: vs) H2 Q (E0)) I ⟨τ, ρ, _, r, sS, w, ?_⟩) fun u s1 ⟨v, H1, I1, rx, a, dx, gs, ev, ea, l, q1⟩ => ?_) ht
  · rintro od v H1 ⟨a, dx, fs, rfl, g, l, w1⟩ r1 e1 s1
    cases r1
    have st1 : Step (SF X.K R0 h0) τ H τ H1 := .ext e1
    obtain ⟨gs, hh, ra⟩ := symAt H1 s1 a _ g
    refine ⟨a, dx, gs, rfl, hh, lookup_no ra l, τ, ρ, _, x, r.step st1, s1, w1, fun τ1 ds vs H2 w2 r2 e2 s2 => ?_, fun C τ' H' hx e2 s2 => g1 C τ' H' hx (st1.trans e2) s2⟩
    exact spY_ok (E := E0) (x := fun _ _ => False) (st1.trans e2) f1 (fun _ _ _ z _ _ => z.elim) (.cons (.ptr a) r2) s2 w2
  · subst ev
    obtain rfl : u = Value.ref a := rx
    refine getmeth_ok I1 ea c hm l ?_
    refine PySem.W.callWith_K (first := [.ref a]) (h₀ := X.base) I.ok.mod.kin hm.kp (thn (ha.run pos pins s1 σ H1 _ I1 q1) fun us s2 ⟨vs, H2, I2, rr, q2⟩ => ⟨I2.kIn, ?_⟩) hst hpl
    exact run_fnX (E := fun _ => E0) (args := ⟨.ref a :: us, []⟩) G hr hgd (fun hl => by
      have b := hb s2 (.ref a :: us) I2.kIn (by rw [List.append_nil]; exact hl)
      rw [List.append_nil] at b
      exact b) pass_no I2 (.cons (show RelV (V.ref a) (Value.ref a) from rfl) rr) q2

theorem c_meth0S {C : Addr} {k : Nat} {m : Str} {o : Expr} {apos : Pos} {pl : Sem Bool} {to : Sy → TDE} {Fd : DCallY Sy} {ps : List Str} (ho : ∀ τ, EE X ((SF X.K R0 h0).at τ) o (to τ)) (c : Cls X.K C) (G : MethX X.prog X.w X.K X.mg X.base C m ps k (spY X.K (SF X.K R0 h0) Fd)) (hr : Room k X.A) (hgd : X.A.guards = some [])
    (ht : eval (.Call (.Attribute o m apos) [] [] pos) X.env = (do
      let ov ← eval o X.env
      standAt apos.atName
      let (f, first) ← holding [ov] (getMethod ov m pl)
      callWith pos f first (backTo pos (starEach [] X.env)) (backToKw pos (keywordEach [] X.env))) := by rfl) :
    YC X (SF X.K R0 h0) W (.Call (.Attribute o m apos) [] [] pos) (cMeth0S C m Fd to) := by
  obtain ⟨f, fd, G, hm, hb⟩ := G.ex
  refine ⟨fun pins s σ H Q I ⟨τ, ρ, q, x, r, sS, w, f1, g1⟩ => ?_⟩
  refine PySem.W.methodCall_KW (pl := pl) (thn ((y_all ho).run pins s σ H (fun v H1 => ∃ a dx gs, v = .ref a ∧ H1 a = some (.ins C dx gs) ∧ gs.lookup m = none ∧ spY X.K (SF X.K R0 h0) Fd [.ref a] H1 Q (E0)) I ⟨τ, ρ, _, r, sS, w, ?_⟩) fun u s1 ⟨v, H1, I1, rx, a, dx, gs, ev, ea, l, q1⟩ => ?_) ht
  · rintro od v H1 ⟨a, dx, fs, rfl, g, l, w1⟩ r1 e1 s1
    cases r1
    have st1 : Step (SF X.K R0 h0) τ H τ H1 := .ext e1
    obtain ⟨gs, hh, ra⟩ := symAt H1 s1 a _ g
    exact ⟨a, dx, gs, rfl, hh, lookup_no ra l, spY_ok (E := E0) (x := fun _ _ => False) st1 f1 (fun _ _ _ z _ _ => z.elim) (.cons (.ptr a) .nil) s1 w1⟩
  · subst ev
    obtain rfl : u = Value.ref a := rx
    refine getmeth_ok I1 ea c hm l ?_
    exact PySem.W.callWith_K0 (first := [.ref a]) I1.kIn hm.kp (run_fnX (E := fun _ => E0) (args := ⟨[.ref a], []⟩) G hr hgd (fun hl => by
      have b := hb s1 [.ref a] I1.kIn (by rw [List.append_nil]; exact hl)
      rw [List.append_nil] at b
      exact b) pass_no I1 (.cons (show RelV (V.ref a) (Value.ref a) from rfl) .nil) q1)

theorem c_methH {C : Addr} {k : Nat} {m : Str} {o e : Expr} {es : List Expr} {apos : Pos} {pl : Sem Bool} {to : Sy → TDE} {t : TDYA} {Fd : DCallY Sy} {ps : List Str} (ho : ∀ τ, EE X ((SF X.K R0 h0).at τ) o (to τ)) (c : Cls X.K C) (G : MethH X.prog X.w X.K X.mg X.base C m ps k (spY X.K (SF X.K R0 h0) Fd)) (hr : L2H.RoomH k X.A) (hc : L2H.HotC X) (ha : YA X (SF X.K R0 h0) W (e :: es) t)
    (hst : starEach (e :: es) X.env = (false, eval e X.env) :: starEach es X.env := by rfl) (hpl : (backTo pos (starEach es X.env)).any (·.1) = false := by rfl)
    (ht : eval (.Call (.Attribute o m apos) (e :: es) [] pos) X.env = (do
      let ov ← eval o X.env
      standAt apos.atName
      let (f, first) ← holding [ov] (getMethod ov m pl)
      callWith pos f first (backTo pos (starEach (e :: es) X.env)) (backToKw pos (keywordEach [] X.env))) := by rfl) :
    YC X (SF X.K R0 h0) W (.Call (.Attribute o m apos) (e :: es) [] pos) (cMethS C m Fd to t) := by
  obtain ⟨f, fd, G, hm, hb⟩ := G.ex
  refine ⟨fun pins s σ H Q I ⟨τ, ρ, q, x, r, sS, w, f1, g1⟩ => ?_⟩
  refine PySem.W.methodCall_KW (pl := pl) (thn ((y_all ho).run pins s σ H (fun v H1 => ∃ a dx gs, v = .ref a ∧ H1 a = some (.ins C dx gs) ∧ gs.lookup m = none ∧ tDYA X.K (SF X.K R0 h0) W t σ H1 fun vs H2 => spY X.K (SF X.K R0 h0) Fd (.ref a :: vs) H2 Q (E0)) I ⟨τ, ρ, _, r, sS, w, ?_⟩) fun u s1 ⟨v, H1, I1, rx, a, dx, gs, ev, ea, l, q1⟩ => ?_) ht
  · rintro od v H1 ⟨a, dx, fs, rfl, g, l, w1⟩ r1 e1 s1
    cases r1
    have st1 : Step (SF X.K R0 h0) τ H τ H1 := .ext e1
    obtain ⟨gs, hh, ra⟩ := symAt H1 s1 a _ g
    refine ⟨a, dx, gs, rfl, hh, lookup_no ra l, τ, ρ, _, x, r.step st1, s1, w1, fun τ1 ds vs H2 w2 r2 e2 s2 => ?_, fun C τ' H' hx e2 s2 => g1 C τ' H' hx (st1.trans e2) s2⟩
    exact spY_ok (E := E0) (x := fun _ _ => False) (st1.trans e2) f1 (fun _ _ _ z _ _ => z.elim) (.cons (.ptr a) r2) s2 w2
  · subst ev
    obtain rfl : u = Value.ref a := rx
    refine getmeth_ok I1 ea c hm l ?_
    refine PySem.W.callWith_K (first := [.ref a]) (h₀ := X.base) I.ok.mod.kin hm.kp (thn (ha.run pos pins s1 σ H1 _ I1 q1) fun us s2 ⟨vs, H2, I2, rr, q2⟩ => ⟨I2.kIn, ?_⟩) hst hpl
    exact L2H.run_fnH (E := fun _ => E0) (us := .ref a :: us) (vs := .ref a :: vs) G hr hc hb (fun _ _ _ _ _ _ z => z.elim) I2 (.cons rfl rr) q2

theorem c_meth0H {C : Addr} {k : Nat} {m : Str} {o : Expr} {apos : Pos} {pl : Sem Bool} {to : Sy → TDE} {Fd : DCallY Sy} {ps : List Str} (ho : ∀ τ, EE X ((SF X.K R0 h0).at τ) o (to τ)) (c : Cls X.K C) (G : MethH X.prog X.w X.K X.mg X.base C m ps k (spY X.K (SF X.K R0 h0) Fd)) (hr : L2H.RoomH k X.A) (hc : L2H.HotC X)
    (ht : eval (.Call (.Attribute o m apos) [] [] pos) X.env = (do
      let ov ← eval o X.env
      standAt apos.atName
      let (f, first) ← holding [ov] (getMethod ov m pl)
      callWith pos f first (backTo pos (starEach [] X.env)) (backToKw pos (keywordEach [] X.env))) := by rfl) :
    YC X (SF X.K R0 h0) W (.Call (.Attribute o m apos) [] [] pos) (cMeth0S C m Fd to) := by
  obtain ⟨f, fd, G, hm, hb⟩ := G.ex
  refine ⟨fun pins s σ H Q I ⟨τ, ρ, q, x, r, sS, w, f1, g1⟩ => ?_⟩
  refine PySem.W.methodCall_KW (pl := pl) (thn ((y_all ho).run pins s σ H (fun v H1 => ∃ a dx gs, v = .ref a ∧ H1 a = some (.ins C dx gs) ∧ gs.lookup m = none ∧ spY X.K (SF X.K R0 h0) Fd [.ref a] H1 Q (E0)) I ⟨τ, ρ, _, r, sS, w, ?_⟩) fun u s1 ⟨v, H1, I1, rx, a, dx, gs, ev, ea, l, q1⟩ => ?_) ht
  · rintro od v H1 ⟨a, dx, fs, rfl, g, l, w1⟩ r1 e1 s1
    cases r1
    have st1 : Step (SF X.K R0 h0) τ H τ H1 := .ext e1
    obtain ⟨gs, hh, ra⟩ := symAt H1 s1 a _ g
    exact ⟨a, dx, gs, rfl, hh, lookup_no ra l, spY_ok (E := E0) (x := fun _ _ => False) st1 f1 (fun _ _ _ z _ _ => z.elim) (.cons (.ptr a) .nil) s1 w1⟩
  · subst ev
    obtain rfl : u = Value.ref a := rx
    refine getmeth_ok I1 ea c hm l ?_
    exact PySem.W.callWith_K0 (first := [.ref a]) I1.kIn hm.kp (L2H.run_fnH (E := fun _ => E0) (us := [.ref a]) (vs := [.ref a]) G hr hc hb (fun _ _ _ _ _ _ z => z.elim) I1 (.cons rfl .nil) q1)

theorem c_methN {C : Addr} {k : Nat} {m : Str} {o e : Expr} {es : List Expr} {apos : Pos} {pl : Sem Bool} {to : Sy → TDE} {t : TDYA} {Fd : DCallY Sy} {ps : List Str} (ho : ∀ τ, EE X ((SF X.K R0 h0).at τ) o (to τ)) (c : Cls X.K C) (G : MethN X.prog X.w X.K X.mg X.base C m ps k (spY X.K (SF X.K R0 h0) Fd)) (tk : L2N.Takes X W) (hr : Room k X.A) (hgd : X.A.guards = some []) (ha : YA X (SF X.K R0 h0) W (e :: es) t)
    (hst : starEach (e :: es) X.env = (false, eval e X.env) :: starEach es X.env := by rfl) (hpl : (backTo pos (starEach es X.env)).any (·.1) = false := by rfl)
    (ht : eval (.Call (.Attribute o m apos) (e :: es) [] pos) X.env = (do
      let ov ← eval o X.env
      standAt apos.atName
      let (f, first) ← holding [ov] (getMethod ov m pl)
      callWith pos f first (backTo pos (starEach (e :: es) X.env)) (backToKw pos (keywordEach [] X.env))) := by rfl) :
    YC X (SF X.K R0 h0) W (.Call (.Attribute o m apos) (e :: es) [] pos) (cMeth C m Fd to t) := by
  obtain ⟨f, fd, G, hm, hb⟩ := G.ex
  refine ⟨fun pins s σ H Q I ⟨τ, ρ, q, x, r, sS, w, f1, g1⟩ => ?_⟩
  refine PySem.W.methodCall_KW (pl := pl) (thn ((y_all ho).run pins s σ H (fun v H1 => ∃ a dx gs, v = .ref a ∧ H1 a = some (.ins C dx gs) ∧ gs.lookup m = none ∧ tDYA X.K (SF X.K R0 h0) W t σ H1 fun vs H2 => spY X.K (SF X.K R0 h0) Fd (.ref a :: vs) H2 Q (WE W σ)) I ⟨τ, ρ, _, r, sS, w, ?_⟩) fun u s1 ⟨v, H1, I1, rx, a, dx, gs, ev, ea, l, q1⟩ => ?_) ht
  · rintro od v H1 ⟨a, dx, fs, rfl, g, l, w1⟩ r1 e1 s1
    cases r1
    have st1 : Step (SF X.K R0 h0) τ H τ H1 := .ext e1
    obtain ⟨gs, hh, ra⟩ := symAt H1 s1 a _ g
    refine ⟨a, dx, gs, rfl, hh, lookup_no ra l, τ, ρ, _, x, r.step st1, s1, w1, fun τ1 ds vs H2 w2 r2 e2 s2 => ?_, fun C τ' H' hx e2 s2 => g1 C τ' H' hx (st1.trans e2) s2⟩
    exact spY_ok (E := WE W σ) (st1.trans e2) f1 g1 (.cons (.ptr a) r2) s2 w2
  · subst ev
    obtain rfl : u = Value.ref a := rx
    refine getmeth_ok I1 ea c hm l ?_
    refine PySem.W.callWith_K (first := [.ref a]) (h₀ := X.base) I.ok.mod.kin hm.kp (thn (ha.run pos pins s1 σ H1 _ I1 q1) fun us s2 ⟨vs, H2, I2, rr, q2⟩ => ⟨I2.kIn, ?_⟩) hst hpl
    exact run_fnN (E := WE W) (args := ⟨.ref a :: us, []⟩) G hr hgd (fun hl => by
      have b := hb s2 (.ref a :: us) I2.kIn (by rw [List.append_nil]; exact hl)
      rw [List.append_nil] at b
      exact b) (L2N.passAt tk σ) I2 (.cons (show RelV (V.ref a) (Value.ref a) from rfl) rr) q2

end
end Dl

set_option Elab.async false
set_option linter.all false
set_option maxRecDepth 100000
set_option maxHeartbeats 4000000
namespace Dl
open PySem PySem.Spec PyProof.Rows L2
theorem roomMark {k : Nat} {A : Around} {v : Option Value} (r : Room k A) : L2H.RoomH k (A.mark v) := ⟨r.dp, r.un⟩
theorem huYH {k : Nat} {A : Around} (r : L2H.RoomH k A) : A.units + 1 < cLine := by have := r.un; omega
section
variable {X : Cx} {R0 : Res} {h0 : ∀ H, R0.Ss H} {W : WX} {pos : Pos} {R : Res} {τ : Sy} {F : Fam Sy}
/-! ### and, as a test over a state -/
theorem b_and1 {e : Expr} {t : TDTY} (h : YTC X F W e t) : YWC X F W (.BoolOp .And [e] pos) t := pw_and1 h
def bAnd (t u : TDTY) : TDTY := fun τ ρ q x => t τ ρ (fun τ1 b => if b = true then u τ1 ρ q x else q τ1 false) x
theorem b_and {a b : Expr} {rest : List Expr} {t u : TDTY} (ha : YTC X F W a t) (hb : YWC X F W (.BoolOp .And (b :: rest) pos) u) : YWC X F W (.BoolOp .And (a :: b :: rest) pos) (bAnd t u) := PW_imp (pw_and ha hb) fun σ H Q ⟨τ, ρ, q, x, r, s, w, f, g⟩ => by
  refine ⟨τ, ρ, _, x, r, s, w, fun τ1 k H1 w1 e1 s1 => ?_, g⟩
  cases k with
  | true =>
    rw [if_pos rfl] at w1 ⊢
    exact ⟨τ1, ρ, q, x, r.step e1, s1, w1, fun τ2 b H2 w2 e2 s2 => f τ2 b H2 w2 (e1.trans e2) s2, fun C τ' H' hx e2 s2 => g C τ' H' hx (e1.trans e2) s2⟩
  | false => rw [if_neg Bool.false_ne_true] at w1 ⊢; exact f τ1 _ H1 w1 e1 s1
/-- type(x), of data, an instance, a list or a dict of the state -/
def typeM (τ : Sy) : DCall := fun ds q => typeL τ ds q ∨ ∃ m kvs, ds = [.ptr m] ∧ sget τ m = some (.dic kvs) ∧ q (.ty "dict")
theorem cd_typeM (S : SymAt X.K τ R) : CallD X.K R (fun xs H Q => rTyp X.K xs H Q ∨ ∃ a C dx fs, xs = [V.ref a] ∧ H a = some (.ins C dx fs) ∧ Q (.ref C) H) (typeM τ) := by
  rintro xs ds H q Q r o w f
  rcases w with w | ⟨l, kvs, rfl, g, w⟩
  · exact cd_typeL S xs ds H q Q r o w f
  · obtain ⟨x, rfl, rx⟩ := r.one
    cases rx
    obtain ⟨us, hh, ra⟩ := S H o l _ g
    exact .inl ⟨.ref l, "dict", rfl, .dK hh, f _ _ H w (.ty _) (Ext.refl _ _) o⟩
/-- a list of the state + written data: data -/
def addPL (τ : Sy) : DOp := fun dx dy q => ∃ a xs ys, dx = .ptr a ∧ sget τ a = some (.lst xs) ∧ lstOf dy ys ∧ xs.length + ys.length ≤ sizeLine ∧ q (.seq (xs ++ ys))
theorem opd_addPL (S : SymAt X.K τ R) : OpD X.K R rCat (addPL τ) := by
  rintro x y dx dy H q Q rx ry o ⟨a, xs, ys, rfl, g, hy, hz, w⟩ f
  cases rx
  obtain ⟨vs, hh, ra⟩ := S H o a _ g
  obtain ⟨b, us, rfl, hb, rb⟩ := rep_lst ry hy
  exact ⟨a, b, vs, us, rfl, rfl, hh, hb, by rw [ra.length, rb.length]; exact hz, fun p n => f _ _ _ w (new_seq (ra.append rb) n o) (Ext.new n) (o.new n)⟩
/-- a[i], a list made on the spot -/
theorem c_ix {a b : Expr} {ta tb : TDY Sy} (ha : YC X (SF X.K R0 h0) W a ta) (hb : YC X (SF X.K R0 h0) W b tb) (hs : PlainIx b := by intro _ _; rfl) : YC X (SF X.K R0 h0) W (.Subscript a b pos) (cOp ixY ta tb) :=
  PE_imp (pe_ix ix_seq ha hb hs) (c_op_ok fun τ => opd_ixY symAt)
end
end Dl

set_option Elab.async false
set_option linter.all false
set_option maxRecDepth 100000
set_option maxHeartbeats 4000000
namespace Dl
open PySem PySem.Spec PyProof.Rows L2
section
variable {X : Cx} {R : Res} {pos : Pos}
/-! ### [e for x, y in zip(a, b)], of two tuples -/
theorem walk_zipT {K : PySem.W.Frag} {a b : Addr} {xs ys : List V} {n : Nat} (hn : n = min xs.length ys.length) : L2.Walk (RZ.ItzT K a b) n (fun H => SqT K H a xs ∧ SqT K H b ys) (YPair (fun i => xs[i]?) (fun i => ys[i]?)) := by
  subst hn
  refine ⟨fun i _ hi q => ?_, fun _ q => ⟨xs, ys, q.1, q.2, by omega⟩, fun i H v H' _ q y => ?_⟩
  · have h1 : i < xs.length := by omega
    have h2 : i < ys.length := by omega
    exact ⟨xs, ys, xs[i], ys[i], q.1, q.2, by simp [h1], by simp [h2]⟩
  · obtain ⟨T, x, z, h1, h2, h3, h4, h5⟩ := y
    exact ⟨T, x, z, h1, h2, h3, h4 xs q.1, h5 ys q.2⟩
def vLcZ (i k : Nat) (ta : TDA) (te : TDE) : TDE := fun ρ q => ta ρ fun ds => ∃ xs ys, ds = [.tup xs, .tup ys] ∧ min xs.length ys.length ≤ sizeLine ∧ ∃ Pj : Nat → D → Prop, (∀ j d e, xs[j]? = some d → ys[j]? = some e → te ((ρ.set i (some d)).set k (some e)) (Pj j)) ∧
  ∀ es, es.length = min xs.length ys.length → (∀ (j : Nat) (e : D), es[j]? = some e → Pj j e) → q (.seq es)
theorem lcZ_ok {K : PySem.W.Frag} {i k : Nat} {ta : TDA} {te : TDE} (hik : i ≠ k) : ∀ σ H Q, tD K R (vLcZ i k ta te) σ H Q → tLc (RZ.iZipA K (tDA K R ta)) (gTup K 2 (gCons (gName i) (gCons (gName k) gNil))) tYes (tEl K R te) [i, k] σ H Q := by
  rintro σ H Q ⟨ρ, q, r, o, w0, f⟩
  refine ⟨ρ, _, r, o, w0, ?_⟩
  rintro ds vs H1 ⟨xs, ys, rfl, hz, Pj, hstep, hend⟩ rr e1 o1
  cases rr with
  | cons r1 rr =>
  cases rr with
  | cons r2 rr =>
  cases rr
  cases r1 with
  | @tup a us _ h1 ra =>
  cases r2 with
  | @tup b ws _ h2 rb =>
  refine ⟨a, b, us, ws, rfl, .inr ⟨h1.sq, h2.sq, fun A nA => ?_⟩⟩
  have eA : Ext R.p H1 (upd H1 A (.lst [])) := Ext.new nA
  have rS : REnv K (R.add A).av (upd H1 A (.lst [])) σ ρ := ((r.mono e1).strong nA).mono0 (Ext.new nA)
  have nAp : A ∉ R.p := fun m => (Pot.nin (R := R) o1 nA) (List.mem_append_left _ m)
  refine lc_it (walk_zipT (n := min xs.length ys.length) (by rw [← ra.length, ← rb.length])) (fun j H' => j ≤ min xs.length ys.length ∧ Ext R.p H1 H' ∧ Pot R H' ∧ ∃ acc es, H' A = some (.lst acc) ∧ RepAll K (R.add A).av H' acc es ∧ es.length = j ∧ (∀ (k : Nat) (e : D), es[k]? = some e → Pj k e) ∧ REnv K (R.add A).av H' σ ρ)
    ⟨Nat.zero_le _, eA, o1.new nA, [], [], upd_same, .nil, rfl, fun k e h => by simp at h, rS⟩ (fun j H' _ ⟨_, e2, _⟩ => ⟨(SqTp.mono (Ext.av e2) h1).sq, (SqTp.mono (Ext.av e2) h2).sq⟩) ?_ ?_
  · rintro j x H' H'' hj ⟨_, e2, o2, acc, es, hA, rc, hl, hP, re⟩ ⟨T, u, v, rfl, nT, rfl, hu, hv⟩
    obtain ⟨d, hd, rd⟩ := ra.get' hu
    obtain ⟨e, he, rd2⟩ := rb.get' hv
    have e3 : Ext R.p H' (upd H' T (.tup [u, v])) := Ext.new nT
    have o3 := o2.new (R := R) (o := .tup [u, v]) nT
    have nAT : A ≠ T := fun z => by rw [z, nT] at hA; cases hA
    have hA3 : (upd H' T (.tup [u, v])) A = some (.lst acc) := by rw [upd_ne nAT]; exact hA
    have oA : Pot (R.add A) (upd H' T (.tup [u, v])) := Pot.add o3 nAp (by rw [hA3]; exact fun z => nomatch z)
    have e13 := e2.trans e3
    refine ⟨T, [u, v], rfl, .inl (.inl upd_same), rfl, u, [v], rfl, v, [], rfl, rfl, ?_⟩
    have hset : ((wipe σ [i, k]).set i (some u)).set k (some v) = (σ.set i (some u)).set k (some v) := by
      show ((((σ.set k none).set i none).set i (some u)).set k (some v)) = _
      rw [List.set_set, List.set_comm _ _ (Ne.symm hik), List.set_set]
    refine ⟨?_, ?_⟩
    · rw [hset]
      show ((((σ.set i (some u)).set k (some v)).set k none).set i none) = (σ.set k none).set i none
      rw [List.set_set, List.set_comm _ _ (Ne.symm hik), List.set_set, List.set_comm _ _ hik]
    dsimp only [tYes]
    rw [if_pos rfl]
    have up : ∀ {x : V} {d : D}, Rep K R.av H1 x d → Rep K (R.add A).av (upd H' T (.tup [u, v])) x d := fun rd => Rep.mono0 (p := (R.add A).av) (fun b u nb hb => e13 b u (fun m => nb (List.mem_append_left _ m)) hb) (rd.strong nA)
    have re3 : REnv K (R.add A).av (upd H' T (.tup [u, v])) σ ρ := re.mono0 (fun b u nb hb => e3 b u (fun m => nb (List.mem_append_left _ m)) hb)
    refine ⟨A, (ρ.set i (some d)).set k (some e), Pj j, ?_, oA, hstep j d e hd he, ?_⟩
    · rw [hset]
      exact (re3.set (up rd) i).set (up rd2) k
    · rintro e' y H4 we ry e4 o4
      have h4 : H4 A = some (.lst acc) := e4 A _ nAp hA3
      refine ⟨acc, h4, ?_, hj, ?_, ?_, acc ++ [y], es ++ [e'], upd_same, ?_, by rw [List.length_append, hl]; rfl, ?_, ?_⟩
      · have := rc.length
        omega
      · intro b u' nb hb
        have nbA : b ≠ A := ne_of_none hb nA
        rw [upd_ne nbA]
        exact e4 b u' nb (e13 b u' nb hb)
      · refine Pot.mix o1 (fun b u' nb hb => ?_) (Pot.of_add o4) (fun b m => upd_ne (fun e => nAp (e ▸ m)))
        rw [upd_ne (ne_of_none hb nA)]
        exact e4 b u' nb (e13 b u' nb hb)
      · exact (((rc.mono0 (fun b u' nb hb => e3 b u' (fun m => nb (List.mem_append_left _ m)) hb)).mono (R := R.add A) e4).append (.cons ry .nil)).mono0 (Ext.put Res.add_mem)
      · intro k' e2' hk
        by_cases hkl : k' < es.length
        · rw [List.getElem?_append_left hkl] at hk
          exact hP k' e2' hk
        · rw [List.getElem?_append_right (by omega)] at hk
          have hk0 : k' - es.length = 0 := by
            by_cases h0 : k' - es.length = 0
            · exact h0
            · rw [List.getElem?_eq_none (by simp; omega)] at hk; cases hk
          rw [hk0] at hk
          have : e' = e2' := by simpa using hk
          subst this
          have : k' = j := by omega
          subst this
          exact we
      · exact (re3.mono (R := R.add A) e4).mono0 (Ext.put Res.add_mem)
  · rintro H' ⟨_, e2, o2, acc, es, hA, rc, hl, hP, re⟩
    refine f _ _ H' (hend es hl hP) (.seq hA (Pot.nin (R := R) o1 nA) (RepAll.weak (fun b hb => Res.add_av hb) rc)) (e1.trans e2) o2
theorem d_lcZ {i k kk : Nat} {x y : Str} {px py pz tpos pos' : Pos} {elt a b : Expr} {scope : Scope} {ta : TDA} {te : TDE} (hm : X.mg "zip" = none) (hc : X.calm = true) (nd : X.N.Nodup) (ha : EA X R [a, b] ta) (ok : BlkOk X.N X.env.scope scope [(x, i), (y, k)]) (hik : i ≠ k)
    (hg : ∀ (s : Shared) (H : Hp) (C : Addr) (cl : List (Str × Addr)) (fp : List Addr), PG (X.blk s H scope (compEnvC scope cl C X.env) fp) (.Tuple [.Name x px, .Name y py] kk tpos) (gTup X.K 2 (gCons (gName i) (gCons (gName k) gNil))))
    (he : ∀ (s : Shared) (H : Hp) (C : Addr) (cl : List (Str × Addr)) (fp : List Addr) (A : Addr), EE (X.blk s H scope (compEnvC scope cl C X.env) fp) (R.add A) elt te) (hgl : Gl X "zip" := by rfl)
    (hst : starEach [a, b] X.env = (false, eval a X.env) :: starEach [b] X.env := by rfl) (hpl : (backTo pos' (starEach [b] X.env)).any (·.1) = false := by rfl) (hs : ∀ x, foldedSetIterable (.Call (.Name "zip" pz) [a, b] [] pos') X.env x = pure x := by intro _; rfl) :
    EE X R (.ListComp elt [⟨.Tuple [.Name x px, .Name y py] kk tpos, .Call (.Name "zip" pz) [a, b] [] pos', [], 0⟩] scope pos) (vLcZ i k ta te) :=
  PE_imp (pe_lc (own := [(x, i), (y, k)]) (g := gTup X.K 2 (gCons (gName i) (gCons (gName k) gNil))) (tt := tYes) (te := tEl X.K R te) hc nd (RZ.pi_zipA hgl hm ha hst hpl) ok hg (fun _ _ _ _ _ => pts_nil) (fun s H C cl fp => ⟨fun pins s' σ H' Q I ⟨A, w⟩ => (he s H C cl fp A).run pins s' σ H' Q I w⟩) hs) (lcZ_ok hik)
end
end Dl

set_option Elab.async false
set_option linter.all false
set_option maxRecDepth 100000
set_option maxHeartbeats 4000000
namespace Dl
open PySem PySem.Spec PyProof.Rows L2
section
variable {X : Cx} {R : Res} {pos : Pos} {K : PySem.W.Frag}
/-! ### b is True, b is not False -/
theorem bool_beq (a b : Bool) : (Value.bool a == Value.bool b) = (a == b) := by cases a <;> cases b <;> first | rfl | decide
theorem op_isB : OpR X (compareOp .Is) (fun x y H Q => ∃ a b, x = .bl a ∧ y = .bl b ∧ Q (.bl (a == b)) H) := by
  intro pins s σ H x y v u Q I rx ry h
  obtain ⟨a, b, rfl, rfl, q⟩ := h
  cases (show v = Value.bool a from rx)
  cases (show u = Value.bool b from ry)
  exact wpAny_is_plain rfl (fin_bl I q (bool_beq a b).symm)
theorem op_notB : OpR X (compareOp .IsNot) (fun x y H Q => ∃ a b, x = .bl a ∧ y = .bl b ∧ Q (.bl (!(a == b))) H) := by
  intro pins s σ H x y v u Q I rx ry h
  obtain ⟨a, b, rfl, rfl, q⟩ := h
  cases (show v = Value.bool a from rx)
  cases (show u = Value.bool b from ry)
  exact wpAny_isNot_plain rfl (fin_bl I q (congrArg not (bool_beq a b).symm))
def isBD (neg : Bool) : DOp := fun dx dy q => ∃ a b, dx = .bl a ∧ dy = .bl b ∧ q (.bl (if neg then !(a == b) else a == b))
theorem opd_isB : OpD K R (fun x y H Q => ∃ a b, x = .bl a ∧ y = .bl b ∧ Q (.bl (a == b)) H) (isBD false) := by
  rintro x y dx dy H q Q rx ry o ⟨a, b, rfl, rfl, w⟩ f
  cases rx; cases ry
  exact ⟨a, b, rfl, rfl, f _ _ H w (.bl _) (Ext.refl _ _) o⟩
theorem opd_notB : OpD K R (fun x y H Q => ∃ a b, x = .bl a ∧ y = .bl b ∧ Q (.bl (!(a == b))) H) (isBD true) := by
  rintro x y dx dy H q Q rx ry o ⟨a, b, rfl, rfl, w⟩ f
  cases rx; cases ry
  exact ⟨a, b, rfl, rfl, f _ _ H w (.bl _) (Ext.refl _ _) o⟩
/-! ### any([..]) -/
def anyC : DCall := fun ds q => ∃ (d : D) (bs : List Bool), ds = [d] ∧ (d = .lst (bs.map .bl) ∨ d = .seq (bs.map .bl)) ∧ q (.bl (bs.any id))
theorem cd_any : CallD K R (rAny K) anyC := by
  rintro xs ds H q Q r o ⟨d, bs, rfl, e, w⟩ f
  obtain ⟨x, rfl, rx⟩ := r.one
  rcases e with rfl | rfl
  · cases rx with
    | lst h1 h2 h3 ra => have := rep_bls ra; subst this; exact ⟨_, bs, rfl, .of h1, f _ _ H w (.bl _) (Ext.refl _ _) o⟩
  · cases rx with
    | seq h1 h2 ra => have := rep_bls ra; subst this; exact ⟨_, bs, rfl, .of h1, f _ _ H w (.bl _) (Ext.refl _ _) o⟩
/-! ### a written table of the module: TABLE[word], a tuple of texts and numbers -/
def cstD : D → Bool | .int _ => true | .str _ => true | _ => false
def cstV : D → V | .int i => .int i | .str x => .str x | _ => .non
theorem rep_csts {p : List Addr} {H : Hp} : ∀ ds : List D, ds.all cstD = true → RepAll K p H (ds.map cstV) ds
  | [], _ => .nil
  | d :: ds, h => by
    rw [List.all_cons, Bool.and_eq_true] at h
    refine .cons ?_ (rep_csts ds h.2)
    have h1 := h.1
    cases d <;> first | exact .int _ | exact .str _ | cases h1
def KTup (K : PySem.W.Frag) (a : Addr) (ds : List D) : Prop := ds.all cstD = true ∧ ∃ (o : Obj) (its : Array Value) (n : Nat), K.lookup a = some o ∧ o.cls = .type "tuple" ∧ o.data = .seq its n ∧ its.size ≤ sizeLine ∧ Vals (ds.map cstV) its.toList
theorem KTup.rep {a : Addr} {ds : List D} {p : List Addr} {H : Hp} (h : KTup K a ds) : Rep K p H (.ref a) (.tup ds) := .tup (.inr h.2) (rep_csts ds h.1)
def relD : List D → List Value → Bool
  | [], [] => true
  | .int i :: ds, .int j _ :: us => decide (i = j) && relD ds us
  | .str x :: ds, .str y _ :: us => decide (x = y) && relD ds us
  | _, _ => false
theorem relD_ok : ∀ {ds : List D} {us : List Value}, relD ds us = true → ds.all cstD = true ∧ Vals (ds.map cstV) us
  | [], [], _ => ⟨rfl, .nil⟩
  | [], _ :: _, h => by simp [relD] at h
  | d :: ds, [], h => by cases d <;> simp [relD] at h
  | d :: ds, u :: us, h => by
    cases d <;> cases u <;> first | (simp [relD] at h; done) | skip
    · rw [relD, Bool.and_eq_true, decide_eq_true_eq] at h
      obtain ⟨rfl, h⟩ := h
      obtain ⟨h1, h2⟩ := relD_ok h
      exact ⟨by rw [List.all_cons, h1]; rfl, .cons ⟨_, rfl⟩ h2⟩
    · rw [relD, Bool.and_eq_true, decide_eq_true_eq] at h
      obtain ⟨rfl, h⟩ := h
      obtain ⟨h1, h2⟩ := relD_ok h
      exact ⟨by rw [List.all_cons, h1]; rfl, .cons ⟨_, rfl⟩ h2⟩
def ktupB (K : PySem.W.Frag) (a : Addr) (ds : List D) : Bool := match K.lookup a with
  | some ⟨.type c, _, .seq its _, _⟩ => decide (c = "tuple") && (decide (its.size ≤ sizeLine) && relD ds its.toList)
  | _ => false
theorem ktupB_ok {a : Addr} {ds : List D} (h : ktupB K a ds = true) : KTup K a ds := by
  unfold ktupB at h
  cases q : K.lookup a with
  | none => rw [q] at h; cases h
  | some o =>
    obtain ⟨oc, od, dt, osl⟩ := o
    rw [q] at h
    cases oc with
    | type c => cases dt with
      | seq its n =>
        simp only [Bool.and_eq_true, decide_eq_true_eq] at h
        obtain ⟨rfl, hz, hr⟩ := h
        obtain ⟨h1, h2⟩ := relD_ok hr
        exact ⟨h1, _, its, n, q, rfl, rfl, hz, h2⟩
      | _ => simp at h
    | _ => simp at h
/-- a module's table of tuples -/
structure TabT (K : PySem.W.Frag) (w : World) (mg : Str → Option Value) (x : Str) (d : Addr) (tab : Str → Option (List D)) : Prop where
  m : mg x = some (.ref d)
  dk : ∃ es n, KDict K w d es n
  ns : ∀ z, match tab z with | some ds => ∃ a, PySem.W.nsIn K d z = some (some (.ref a)) ∧ KTup K a ds | none => PySem.W.nsIn K d z = some none
def inTab (tab : Str → Option (List D)) (d : Addr) (neg : Bool) : DOp := fun dx dy q => ∃ z, dx = .str z ∧ dy = .ptr d ∧ q (.bl (if neg then !(tab z).isSome else (tab z).isSome))
theorem TabT.isS {w : World} {mg : Str → Option Value} {x : Str} {d : Addr} {tab : Str → Option (List D)} (T : TabT K w mg x d tab) (z : Str) : ∃ r, PySem.W.nsIn K d z = some r ∧ r.isSome = (tab z).isSome := by
  have h := T.ns z
  cases e : tab z with
  | none => rw [e] at h; exact ⟨none, h, rfl⟩
  | some ds => rw [e] at h; obtain ⟨a, h1, _⟩ := h; exact ⟨_, h1, rfl⟩
theorem opd_inTab {w : World} {mg : Str → Option Value} {x : Str} {d : Addr} {tab : Str → Option (List D)} (T : TabT K w mg x d tab) : OpD K R (fun x y H Q => ∃ (z : Str) (r : Option Value), x = .str z ∧ y = .ref d ∧ PySem.W.nsIn K d z = some r ∧ Q (.bl r.isSome) H) (inTab tab d false) := by
  rintro x y dx dy H q Q rx ry o ⟨z, rfl, rfl, w⟩ f
  cases rx; cases ry
  obtain ⟨r, h1, h2⟩ := T.isS z
  refine ⟨z, r, rfl, rfl, h1, f _ _ H w ?_ (Ext.refl _ _) o⟩
  rw [h2]; exact .bl _
theorem opd_notTab {w : World} {mg : Str → Option Value} {x : Str} {d : Addr} {tab : Str → Option (List D)} (T : TabT K w mg x d tab) : OpD K R (fun x y H Q => ∃ (z : Str) (r : Option Value), x = .str z ∧ y = .ref d ∧ PySem.W.nsIn K d z = some r ∧ Q (.bl (!r.isSome)) H) (inTab tab d true) := by
  rintro x y dx dy H q Q rx ry o ⟨z, rfl, rfl, w⟩ f
  cases rx; cases ry
  obtain ⟨r, h1, h2⟩ := T.isS z
  refine ⟨z, r, rfl, rfl, h1, f _ _ H w ?_ (Ext.refl _ _) o⟩
  rw [h2]; exact .bl _
theorem op_inTab {x : Str} {d : Addr} {tab : Str → Option (List D)} (T : TabT X.K X.w X.mg x d tab) : OpR X (compareOp .In) (fun x y H Q => ∃ (z : Str) (r : Option Value), x = .str z ∧ y = .ref d ∧ PySem.W.nsIn X.K d z = some r ∧ Q (.bl r.isSome) H) := by
  obtain ⟨es, n, D⟩ := T.dk
  exact op_in_kd D
theorem op_notTab {x : Str} {d : Addr} {tab : Str → Option (List D)} (T : TabT X.K X.w X.mg x d tab) : OpR X (compareOp .NotIn) (fun x y H Q => ∃ (z : Str) (r : Option Value), x = .str z ∧ y = .ref d ∧ PySem.W.nsIn X.K d z = some r ∧ Q (.bl (!r.isSome)) H) := by
  obtain ⟨es, n, D⟩ := T.dk
  exact op_notIn_kd D
def ixTab (tab : Str → Option (List D)) (d : Addr) : DOp := fun dx dy q => ∃ z ds, dx = .ptr d ∧ dy = .str z ∧ tab z = some ds ∧ q (.tup ds)
theorem d_ixTab {x : Str} {d : Addr} {tab : Str → Option (List D)} {a b : Expr} {ta tb : TDE} (T : TabT X.K X.w X.mg x d tab) (ha : EE X R a ta) (hb : EE X R b tb) (hs : PlainIx b := by intro _ _; rfl) : EE X R (.Subscript a b pos) (vOp (ixTab tab d) ta tb) := PE_imp (pe_ix ix_kdict ha hb hs) (tOp_of (by
  rintro x y dx dy H q Q rx ry o ⟨z, ds, rfl, rfl, e, w⟩ f
  cases rx; cases ry
  have h := T.ns z
  rw [e] at h
  obtain ⟨a, h1, h2⟩ := h
  obtain ⟨es, n, D⟩ := T.dk
  exact ⟨d, z, .ref a, rfl, rfl, ⟨es, n, _, D.at_, D.lit, h1, rfl⟩, f _ _ H w h2.rep (Ext.refl _ _) o⟩))
/-! ### f(b=.., a=..), of data -/
structure DefK2 (P : Program) (w : World) (K : PySem.W.Frag) (mg : Str → Option Value) (base : Heap) (x a b : Str) (k : Nat) (sp : Sp) : Prop where
  ex : ∃ (f : Addr) (fd : FuncData), FnG P w K mg base k f fd [a, b] sp ∧ mg x = some (.ref f) ∧ PySem.W.keepIn K (.ref f) = true ∧ Binds K fd [a, b] [] ∧ ∀ (s : Shared) (u1 u2 : Value), BindsTo s fd ⟨[], [b, a].zip [u2, u1]⟩ ([a, b].zip [u1, u2])
theorem DefK2.d {P : Program} {w : World} {K : PySem.W.Frag} {mg : Str → Option Value} {base : Heap} {x a b : Str} {k : Nat} {sp : Sp} (h : DefK2 P w K mg base x a b k sp) : Def P w K mg base x k sp := by
  obtain ⟨f, fd, h1, h2, h3, h4, _⟩ := h.ex
  exact ⟨f, fd, _, h1, h2, h3, h4⟩
abbrev EK (X : Cx) (R : Res) (kws : List Keyword) (t : TDA) : Prop := PK X kws (tDA X.K R t)
theorem ek_nil : EK X R [] vNil := ⟨fun pos pins s σ H Q I ⟨ρ, q, hr, ho, w, f⟩ => pk_nil.run pos pins s σ H Q I (f [] [] H w .nil (Ext.refl _ _) ho)⟩
theorem ek_cons {nm : Option Str} {kp : Pos} {e : Expr} {kws : List Keyword} {t : TDE} {u : TDA} (ha : EE X R e t) (hr : EK X R kws u) : EK X R (⟨nm, e, kp⟩ :: kws) (vCons t u) :=
  ⟨fun pos pins s σ H Q I ⟨ρ, q, r, o, w, f⟩ => (pk_cons (nm := nm) (kpos := kp) ha hr).run pos pins s σ H Q I (by
    refine ⟨ρ, _, r, o, w, fun d v H1 w1 r1 e1 o1 => ?_⟩
    refine ⟨ρ, _, r.mono e1, o1, w1, fun ds vs H2 w2 r2 e2 o2 => ?_⟩
    exact f (d :: ds) (v :: vs) H2 w2 (.cons (r1.mono e2) r2) (e1.trans e2) o2)⟩
theorem d_callK2 {k : Nat} {x a b : Str} {p : Pos} {kws : List Keyword} {t : TDA} {Fd : DCall} (G : DefK2 X.prog X.w X.K X.mg X.base x a b k (spD X.K R Fd)) (hr : Room k X.A) (hgd : X.A.guards = some []) (ha : EK X R kws t) (hg : Gl X x := by rfl)
    (hdb : (x == ("__debug__" : Str)) = false := by decide) (hall : (backToKw pos (keywordEach kws X.env)).all (·.1.isSome) = true := by rfl) (hks : (backToKw pos (keywordEach kws X.env)).filterMap (·.1) = [b, a] := by rfl)
    (hpl : ((backTo pos (starEach [] X.env)).any (·.1) || (backToKw pos (keywordEach kws X.env)).any (·.1.isNone)) = false := by rfl) :
    EE X R (.Call (.Name x p) [] kws pos) (fun ρ q => t ρ fun ds => ∃ c d, ds = [d, c] ∧ Fd [c, d] q) := by
  obtain ⟨f, fd, F, hm, hk, hb, hbk⟩ := G.ex
  refine ⟨fun pins s σ H Q I ⟨ρ, q, r, o, w, fi⟩ => ?_⟩
  refine wpAny_Call_Name_kw (ld_glob I hg hm ?_ hdb)
  refine PySem.W.callWith_KW0 (h₀ := X.base) I.ok.mod.kin hk hall ?_ hpl
  refine thn (ha.run pos pins s σ H (fun vs H1 => ∃ v1 v2, vs = [v2, v1] ∧ spD X.K R Fd [v1, v2] H1 Q E0) I ?_) fun ws s2 ⟨zs, H2, I2, rz, v1, v2, ez, q2⟩ => ⟨I2.kIn, ?_⟩
  · refine ⟨ρ, _, r, o, w, ?_⟩
    rintro ds vs H1 ⟨c, d, rfl, w1⟩ r1 e1 o1
    obtain ⟨x2, x1, rfl, q2, q1⟩ := r1.two
    exact ⟨x1, x2, rfl, [c, d], q, .cons q1 (.cons q2 .nil), o1, w1, fi.step e1⟩
  · rw [hks]
    subst ez
    cases rz with
    | @cons _ u2 _ _ p2 t1 => cases t1 with
      | @cons _ u1 _ _ p1 t2 =>
        cases t2
        refine wpAny_call (codeAny_mono (F.run X.A X.stack s2 H2 ⟨[], [b, a].zip [u2, u1]⟩ [u1, u2] [v1, v2] Q E0 hr hgd I2.env0 (hbk s2 u1 u2) (.cons p1 (.cons p2 .nil)) q2) fun r s' hq => ?_)
        cases r with
        | error e => exact hq.elim
        | ok fl =>
          cases fl with
          | ret u => exact I2.after hq
          | next => exact False.elim hq
          | brk => exact False.elim hq
          | cont => exact False.elim hq
end
end Dl

set_option Elab.async false
set_option linter.all false
set_option maxRecDepth 100000
set_option maxHeartbeats 4000000
namespace Dl
open PySem PySem.Spec PyProof.Rows L2
/-! ### a list of the state that nobody changes any more: data -/
def dropS (τ : Sy) (l : Addr) : Sy := τ.filter fun p => decide (p.1 ≠ l)
theorem sget_drop {l c : Addr} (h : c ≠ l) : ∀ {τ : Sy}, sget (dropS τ l) c = sget τ c
  | [] => rfl
  | (b, o) :: τ => by
    unfold dropS
    by_cases e : b = l
    · rw [List.filter_cons_of_neg (by simp [e])]
      show sget (dropS τ l) c = sget ((b, o) :: τ) c
      rw [sget_drop h, sget_ne (by rw [e]; exact h)]
    · rw [List.filter_cons_of_pos (by simp [e])]
      by_cases ec : c = b
      · subst ec; rw [sget_self, sget_self]
      · rw [sget_ne ec, sget_ne ec]; exact sget_drop h
theorem drop_mem {l : Addr} {τ : Sy} {c : Addr} (h : c ∈ (dropS τ l).map (·.1)) : c ∈ τ.map (·.1) ∧ c ≠ l := by
  obtain ⟨p, m, rfl⟩ := List.mem_map.mp h
  obtain ⟨m1, m2⟩ := List.mem_filter.mp m
  exact ⟨List.mem_map.mpr ⟨p, m1, rfl⟩, of_decide_eq_true m2⟩
theorem sget_drop_self {l : Addr} {τ : Sy} : sget (dropS τ l) l = none := by
  cases e : sget (dropS τ l) l with
  | none => rfl
  | some o => exact absurd rfl (drop_mem (sget_mem e)).2
section
variable {X : Cx} {R0 : Res} {h0 : ∀ H, R0.Ss H} {W : WX} {pos : Pos} {R : Res} {τ : Sy} {K : PySem.W.Frag} {H : Hp}
theorem drop_av {l : Addr} {c : Addr} (h : c ∈ (SF K R0 h0).av (dropS τ l)) : c ∈ (SF K R0 h0).av τ := by
  rcases List.mem_append.mp h with m | m
  · exact List.mem_append_left _ m
  · rcases List.mem_append.mp m with m | m
    · exact List.mem_append_right _ (List.mem_append_left _ (drop_mem m).1)
    · exact List.mem_append_right _ (List.mem_append_right _ m)
theorem drop_ok {l : Addr} (s : (SF K R0 h0).S τ H) : (SF K R0 h0).S (dropS τ l) H := ⟨s.1, fun a so g => by
  have ne : a ≠ l := fun e => by rw [e, sget_drop_self] at g; cases g
  rw [sget_drop ne] at g
  exact ⟨(s.2 a so g).1, Hold.of (fun v d r => Rep.weak (fun b hb => drop_av (K := K) (R0 := R0) (h0 := h0) hb) r) (fun u hu => hu) (s.2 a so g).2⟩⟩
theorem drop_step {l : Addr} : Step (SF K R0 h0) τ H (dropS τ l) H := ⟨fun _ _ _ h => h, fun b m => .inl (drop_av (K := K) (R0 := R0) (h0 := h0) (l := l) (List.mem_append_right _ m))⟩
def cFrz (t : TDY Sy) : TDY Sy := fun τ ρ q x => t τ ρ (fun τ1 d => q τ1 d ∨ ∃ l xs, d = .ptr l ∧ sget τ1 l = some (.lst xs) ∧ q (dropS τ1 l) (.seq xs)) x
theorem c_frz {e : Expr} {t : TDY Sy} (he : YC X (SF X.K R0 h0) W e t) : YC X (SF X.K R0 h0) W e (cFrz t) := PE_imp he fun σ H Q ⟨τ, ρ, q, x, r, s, w, f, g⟩ => ⟨τ, ρ, _, x, r, s, w, fun τ1 d v H1 w1 r1 e1 s1 => by
  rcases w1 with w1 | ⟨l, xs, rfl, gl, w1⟩
  · exact f τ1 d v H1 w1 r1 e1 s1
  · cases r1
    obtain ⟨hn, us, hh, ra⟩ := s1.2 l _ gl
    refine f (dropS τ1 l) (.seq xs) (.ref l) H1 w1 (.seq hh ?_ (RepAll.weak (fun b hb => drop_av (K := X.K) (R0 := R0) (h0 := h0) hb) ra)) (e1.trans drop_step) (drop_ok s1)
    intro m
    rcases List.mem_append.mp m with m | m
    · exact hn (List.mem_append_left _ m)
    · rcases List.mem_append.mp m with m | m
      · exact (drop_mem m).2 rfl
      · exact hn (List.mem_append_right _ m), g⟩
/-- list(e), of data or of a list of the state: data -/
theorem d_listP {e : Expr} {p0 : Pos} {t : TDA} (S : SymAt X.K τ R) (hm : X.mg "list" = none) (ha : EA X R [e] t) (hg : Gl X "list" := by rfl) (he : starEach [e] X.env = (false, eval e X.env) :: starEach [] X.env := by rfl) (hpl : (backTo pos (starEach [] X.env)).any (·.1) = false := by rfl) :
    EE X R (.Call (.Name "list" p0) [e] [] pos) (fun ρ q => t ρ fun ds => ∃ d xs, ds = [d] ∧ itemsY τ d xs ∧ q (.seq xs)) :=
  PE_imp (pe_callTy call_list_of hg hm (by decide +kernel) ha (by decide) (by decide) he hpl) fun σ H Q ⟨ρ, q, r, o, w, f⟩ => ⟨ρ, _, r, o, w, fun ds vs H1 w1 r1 e1 o1 => by
    obtain ⟨d, xs, rfl, hi, w2⟩ := w1
    obtain ⟨y, rfl, rx⟩ := r1.one
    obtain ⟨a, us, rfl, sq, ra⟩ := items_y S o1 rx hi
    exact ⟨a, us, rfl, sq, fun l n => f _ _ _ w2 (new_seq ra n o1) (e1.trans (Ext.new n)) (o1.new n)⟩⟩
end
end Dl

set_option Elab.async false
set_option linter.all false
set_option maxRecDepth 100000
set_option maxHeartbeats 4000000
namespace Dl
open PySem PySem.Spec PyProof.Rows L2
section
variable {X : Cx} {R0 : Res} {h0 : ∀ H, R0.Ss H} {W : WX} {pos : Pos}
/-! ### while, its test over the state -/
def yWhileC (c : TDTY) (tb : TDSS Sy) : TDSS Sy := fun e τ ρ => ∃ (Iv : Sy → DE → Prop) (μ : Sy → DE → Nat), Iv τ ρ ∧ ∀ τ' ρ', Iv τ' ρ' → c τ' ρ' (fun τ1 b => if b = true then tb ⟨fun τ2 ρ2 => Iv τ2 ρ2 ∧ μ τ2 ρ2 < μ τ' ρ', e.rt, e.xc⟩ τ1 ρ' else e.nx τ1 ρ') (fun C τ1 => e.xc C τ1 ρ')
theorem y_whileC {c : Expr} {body : List Stmt} {tc : TDTY} {tb : TDSS Sy} (hp : PassesOwn (model X.prog X.w) X.A X.env X.xe) (hc : YTC X (SF X.K R0 h0) W c tc) (hb : YSs X (SF X.K R0 h0) W body tb) : YS X (SF X.K R0 h0) W (.While c body [] pos) (yWhileC tc tb) :=
  PS_imp (ps_while hp hc hb) fun E σ H ⟨τ, ρ, en, r, s, ⟨Iv, μ, i0, turn⟩, f⟩ => by
    refine ⟨fun m σ' H' => ∃ τ' ρ', m = μ τ' ρ' ∧ Step (SF X.K R0 h0) τ H τ' H' ∧ (SF X.K R0 h0).S τ' H' ∧ REnv X.K ((SF X.K R0 h0).av τ') H' σ' ρ' ∧ Iv τ' ρ', ⟨_, τ, ρ, rfl, .refl, s, r, i0⟩, ?_⟩
    rintro m σ' H' ⟨τ', ρ', rfl, e2, s2, r2, iv⟩
    refine ⟨τ', ρ', _, _, r2, s2, turn τ' ρ' iv, fun τ1 b H1 w1 e3 s3 => ?_, fun C τ1 H1 hx e3 s3 => f.xc C τ1 ρ' σ' H1 hx (r2.step e3) (e2.trans e3) s3⟩
    cases b with
    | true =>
      rw [if_pos rfl] at w1
      refine iteT ⟨fun σ4 H4 => ∃ τ4 ρ4, Step (SF X.K R0 h0) τ H τ4 H4 ∧ (SF X.K R0 h0).S τ4 H4 ∧ REnv X.K ((SF X.K R0 h0).av τ4) H4 σ4 ρ4 ∧ Iv τ4 ρ4 ∧ μ τ4 ρ4 < μ τ' ρ', ?_, ?_⟩
      · rintro σ4 H4 ⟨τ4, ρ4, e4, s4, r4, iv4, lt⟩
        exact ⟨_, lt, τ4, ρ4, rfl, e4, s4, r4, iv4⟩
      · refine ⟨τ1, ρ', _, r2.step e3, s3, w1, ⟨fun τ4 ρ4 σ4 H4 w4 r4 e4 s4 => ?_, fun τ4 d4 v4 H4 w4 r4 e4 s4 => f.rt τ4 d4 v4 H4 w4 r4 ((e2.trans e3).trans e4) s4, fun C τ4 ρ4 σ4 H4 w4 r4 e4 s4 => f.xc C τ4 ρ4 σ4 H4 w4 r4 ((e2.trans e3).trans e4) s4⟩⟩
        exact ⟨τ4, ρ4, (e2.trans e3).trans e4, s4, r4, w4.1, w4.2⟩
    | false =>
      rw [if_neg Bool.false_ne_true] at w1
      exact iteF (f.nx τ1 ρ' σ' H1 w1 (r2.step e3) (e2.trans e3) s3)
end
/-- a def of data, over a state -/
theorem FnG.toY {T : Type} {P : Program} {w : World} {K : PySem.W.Frag} {mg : Str → Option Value} {base : Heap} {k : Nat} {f : Addr} {fd : FuncData} {ps : List Str} {Fp : DCall} {F : Fam T} (G : ∀ R : Res, FnG P w K mg base k f fd ps (spD K R Fp)) : FnX P w K mg base k f fd ps (spY K F fun ds τ q _ => Fp ds (q τ)) := by
  have fin : ∀ {τ : T} {H : Hp} {q : T → D → Prop} {Q : VK}, (∀ τ' d v H', q τ' d → Rep K (F.av τ') H' v d → Step F τ H τ' H' → F.S τ' H' → Q v H') → Fin K (F.at τ) H (q τ) Q := fun f1 d v H' hd rv ex o => f1 _ d v H' hd rv (.ext ex) o
  refine ⟨fun vs H Q E ⟨ds, τ, q, x, r, s, h, f1, g1⟩ => (G (F.at τ)).len vs H Q E ⟨ds, q τ, r, s, h, fin f1⟩, fun A outer s H args us vs Q E hr hg e0 hb rv ⟨ds, τ, q, x, r, sS, h, f1, g1⟩ => ?_⟩
  refine codeAny_mono ((G (F.at τ)).run A outer s H args us vs Q E hr hg e0 hb rv ⟨ds, q τ, r, sS, h, fin f1⟩) fun r s' hq => ?_
  cases r with
  | error e => exact hq.elim
  | ok fl =>
    cases fl with
    | ret u => exact hq
    | next => exact hq
    | brk => exact hq
    | cont => exact hq
end Dl

set_option Elab.async false
set_option linter.all false
set_option maxRecDepth 100000
set_option maxHeartbeats 4000000
namespace Dl
open PySem PySem.Spec PyProof.Rows L2
theorem RepAll.revs {K : PySem.W.Frag} {p : List Addr} {H : Hp} : ∀ {vs : List V} {ds : List D}, RepAll K p H vs ds → RepAll K p H vs.reverse ds.reverse
  | _, _, .nil => .nil
  | _, _, .cons h t => by
    rw [List.reverse_cons, List.reverse_cons]
    exact (RepAll.revs t).append (.cons h .nil)
section
variable {X : Cx} {R : Res} {pos : Pos} {τ : Sy}
/-- l[::-1], of a list of the state: data -/
theorem d_revLP {e : Expr} {t : TDE} {k : Nat} {p1 p2 p3 : Pos} (S : SymAt X.K τ R) (he : EE X R e t) : EE X R (.Subscript e (.Slice none none (some (.UnaryOp .USub (.Constant (.int 1) k p1) p2)) p3) pos) (fun ρ q => t ρ fun d => ∃ l xs, d = .ptr l ∧ sget τ l = some (.lst xs) ∧ q (.seq xs.reverse)) :=
  PE_imp (pe_revL he) fun σ H Q ⟨ρ, q, r, o, w, f⟩ => by
    refine ⟨ρ, _, r, o, w, fun d x H1 w1 r1 e1 o1 => ?_⟩
    obtain ⟨a, xs, rfl, g, w4⟩ := w1
    cases r1
    obtain ⟨vs, hh, ra⟩ := S H1 o1 a _ g
    exact ⟨a, vs, rfl, .of hh, fun A n => f _ _ _ w4 (new_seq ra.revs n o1) (e1.trans (Ext.new n)) (o1.new n)⟩
end
end Dl

set_option Elab.async false
set_option linter.all false
set_option maxRecDepth 100000
set_option maxHeartbeats 4000000
namespace PySem.SeqAt
open AutoSeq1 (wpAny_loadPart')
open MeetsSeq
theorem tuple_ne_declines_dict (l b : Addr) (items : Array Value) (n : Nat) (dd dd2 : Option Addr) (data2 : Data) (sl sl2 : Array (Option Value)) :
    Meets (Builtin.«tuple.__ne__» ⟨[.ref l, .ref b], []⟩) (fun _ R s => s.heap.get? l = some { cls := .type "tuple", dict := dd, data := .seq items n, slots := sl } ∧ s.heap.get? b = some { cls := .type "dict", dict := dd2, data := data2, slots := sl2 } ∧ R (.ok (.ret .notImplemented)) s) :=
  .of_wp fun prog w A R s h => by obtain ⟨hp, g, d, tk, os⟩ := s; obtain ⟨hl, hb, h⟩ := h; have f1 := F.sub_dict_tuple; wp_walk using wpAny_loadPart' hl, wpAny_loadPart' hb; exact ⟨_, rfl, h⟩
end PySem.SeqAt
namespace Dl
open PySem PySem.Spec PyProof.Rows L2 PySem.SeqAt
section
variable {prog : Program} {w : World} {A : Around} {E : Value → Shared → Prop} {s : Shared}
/-- a dict and a tuple are not alike -/
theorem ne_dict_tuple {a b : Addr} {oa : Obj} {items : Array Value} {Q : Value → Shared → Prop} (ha : s.heap.get? a = some oa) (hca : oa.cls = .type "dict") (hl : s.heap.IsTuple b items) (hu : A.units < cLine) (h : Q (.bool true) s) :
    wpAny (model prog w) A (compareOp .NotEq (.ref a) (.ref b)) Q E s := by
  obtain ⟨⟨cls, dd, data, sl⟩, ho, hc, n, hd⟩ := id hl
  simp only at hc hd
  subst hc hd
  have ta : s.TypeIs (.ref a) "dict" := ⟨oa, ha, hca⟩
  show wpAny _ _ (richCompare .NotEq (.ref a) (.ref b)) _ _ s
  refine rc_ne_decline_or (k := false) ta ⟨_, ho, rfl⟩ (by decide) PySem.F.sub_tuple_dict PySem.F.slot_dict_ne PySem.F.slot_tuple_ne_refl (fun Q' hq => ?_) (fun Q' hq => ?_) (fun Q' hq => ?_) (.inr hu) h
  · refine wpAny_call_entry PySem.F.slot_dict_ne ta PySem.F.entry_dict_ne ?_ (PySem.F.args_dict_ne_2 _ _)
    show wpAny _ _ (Builtin.Dict.dictSlotArgs "__ne__" ⟨[.ref a, .ref b], []⟩ >>= _) _ _ s
    refine wpAny_bind ?_
    unfold Builtin.Dict.dictSlotArgs
    refine wpAny_bind (wpAny_notOrdered_dict ta ?_)
    show wpAny _ _ (pure (Value.ref a, Value.ref b)) _ _ s
    refine wpAny_pure ?_
    refine wpAny_bind (wpAny_isInstance (T := "tuple") ⟨_, ho, rfl⟩ PySem.F.sub_tuple_dict ?_)
    rw [if_pos (by decide)]
    exact wpAny_bind (wpAny_rule (wpAny_pure ⟨_, rfl, hq⟩))
  · obtain ⟨ca, da, dta, sla⟩ := oa
    simp only at hca
    subst hca
    exact call_meets PySem.F.slot_tuple_ne_refl ⟨_, ho, rfl⟩ PySem.F.entry_tuple_ne (PySem.F.args_tuple_ne_2 _ _) (tuple_ne_declines_dict b a items n dd da dta sl sla) ⟨ho, ha, hq⟩
  · have hab : a ≠ b := fun e => by
      rw [e, ho] at ha
      cases ha
      exact absurd (show Value.type "tuple" = Value.type "dict" from hca) (by decide)
    show wpAny _ A (if (a == b) = true then pure true else _) _ E s
    rw [if_neg (by simpa using hab)]
    refine wpAny_bind (wpAny_load ha (wpAny_bind (wpAny_load ho ?_)))
    split
    · rename_i h1 _ _ _
      rw [hca] at h1
      exact absurd h1 (by decide)
    · exact wpAny_pure hq
end
section
variable {X : Cx} {R : Res} {K : PySem.W.Frag}
theorem op_ne_dictT (hu : X.A.units < cLine) : OpR X (compareOp .NotEq) (fun x y H Q => ∃ a b xs, x = .ref a ∧ y = .ref b ∧ H a = some (.dK []) ∧ SqT X.K H b xs ∧ Q (.bl true) H) := by
  intro pins s σ H x y v u Q I rx ry h
  obtain ⟨a, b, xs, rfl, rfl, ea, hb, q⟩ := h
  obtain rfl : v = Value.ref a := rx
  obtain rfl : u = Value.ref b := ry
  obtain ⟨_, ya, va, ra, da⟩ := (show ObjOk X.prog X.w H s.heap a (.dK []) from I.hok a _ ea)
  obtain ⟨its, r', pl, hz⟩ := I.tuple hb
  obtain ⟨oa, ho, hc⟩ := da.typeIs
  exact ne_dict_tuple ho hc pl hu (fin_bl I q rfl)
/-- x != (..), whatever x is -/
def nePT : DOp := fun dx dy q => ∃ ys, dy = .tup ys ∧ D.eqps ys = true ∧ SeqAt.shaped (.tuple (D.pys ys)) = true ∧
  (((∃ xs, dx = .tup xs ∧ D.eqps xs = true ∧ SeqAt.shaped (.tuple (D.pys xs)) = true ∧ q (.bl (!PyData.eqv (.tuple (D.pys xs)) (.tuple (D.pys ys))))) ∨
    (∃ xs, dx = .seq xs ∧ D.eqps xs = true ∧ SeqAt.shaped (.list (D.pys xs)) = true ∧ q (.bl (!PyData.eqv (.list (D.pys xs)) (.tuple (D.pys ys))))) ∨
    (flatD dx = true ∧ SeqAt.shaped dx.py = true ∧ q (.bl (!PyData.eqv dx.py (.tuple (D.pys ys)))))) ∨ (dx = .emp ∧ q (.bl true)))
def rNePT (K : PySem.W.Frag) : R2 := fun x y H Q => rNeD K x y H Q ∨ ∃ a b xs, x = .ref a ∧ y = .ref b ∧ H a = some (.dK []) ∧ SqT K H b xs ∧ Q (.bl true) H
theorem op_nePT (hu : X.A.units + 64 < cLine) : OpR X (compareOp .NotEq) (rNePT X.K) := OpR_or (op_neD hu) (op_ne_dictT (by omega))
theorem opd_nePT : OpD K R (rNePT K) nePT := by
  rintro x y dx dy H q Q rx ry o ⟨ys, rfl, f2, s2, w⟩ f
  have h2 := rep_dpE ry (by simp only [D.eqp]; exact f2)
  simp only [D.py] at h2
  rcases w with w | ⟨rfl, w⟩
  · refine .inl ?_
    rcases w with ⟨xs, rfl, f1, s1, w⟩ | ⟨xs, rfl, f1, s1, w⟩ | ⟨hf, s1, w⟩
    · have h1 := rep_dpE rx (by simp only [D.eqp]; exact f1)
      simp only [D.py] at h1
      exact ⟨_, _, h1, h2, s1, s2, f _ _ H w (.bl _) (Ext.refl _ _) o⟩
    · cases rx with
      | seq g n r =>
        exact ⟨_, _, .lst (.of g) (rep_dpsE r f1), h2, s1, s2, f _ _ H w (.bl _) (Ext.refl _ _) o⟩
    · have h1 := rep_dpE rx (by cases dx <;> first | rfl | cases hf)
      exact ⟨_, _, h1, h2, s1, s2, f _ _ H w (.bl _) (Ext.refl _ _) o⟩
  · cases rx with
    | emp g n => cases ry with
      | tup g2 r => exact .inr ⟨_, _, _, rfl, rfl, g, g2.sq, f _ _ H w (.bl _) (Ext.refl _ _) o⟩
end
end Dl

set_option Elab.async false
set_option linter.all false
set_option maxRecDepth 100000
set_option maxHeartbeats 4000000
namespace Dl
open PySem PySem.Spec PyProof.Rows L2
/-! ### repr of a list of the state (no dict in it) -/
def rReprL (K : PySem.W.Frag) : List V → Hp → VK → Prop := fun xs H Q => ∃ q a vs ds, xs = [.ref a] ∧ H a = some (.lst vs) ∧ RepAll K q H vs ds ∧ (D.lst ds).plain = true ∧ (D.lst ds).dp ≤ 50 ∧ (D.lst ds).sz ≤ 1000000 ∧ (D.lst ds).py.hasDict = false ∧ Q (.str (D.lst ds).py.shown) H
section
variable {X : Cx}
theorem call_reprL (hg : X.A.guards = some []) (hu : X.A.units + 64 < cLine) : CallR X (.builtin "repr") (rReprL X.K) := by
  intro pins s σ H xs us Q I r h
  obtain ⟨q, a, vs, ds, rfl, hs, ha, h1, h2, h3, h4, w⟩ := h
  cases r with
  | @cons _ u _ _ rv rr =>
    cases rr
    obtain rfl : u = Value.ref a := rv
    have g : D.plains ds = true := by simpa only [D.plain] using h1
    obtain ⟨its, rv2, ⟨o, n, ho, hc, _, hd⟩, _⟩ := I.list (SqL.of (K := X.K) hs)
    obtain ⟨as, hr, hn⟩ := Rep.readsAll I ds _ its g ha rv2
    have hz := py_shown (.lst ds) h1
    have hl : (D.lst ds).py.shown.length ≤ sizeLine := by rw [sizeLine_eq]; omega
    have fin : ∀ (h' : Heap) (u tk : Tok), (∀ b o, s.heap.get? b = some o → h'.get? b = some o) → EP X pins σ Q (.str (D.lst ds).py.shown u) { s with heap := h', toks := tk } := fun h' u tk k => ⟨.str _, H, I.kept k, ⟨u, rfl⟩, w⟩
    have hdp := py_depth (.lst ds) h1
    have hsw := py_showable (.lst ds) h1
    obtain ⟨bs, rd⟩ : ∃ bs, Reads s.heap (.ref a) (D.lst ds).py bs := ⟨_, by simp only [D.py]; exact Reads.list ho hc hd hr⟩
    exact repr_of_reads' rd hsw (fun hx => by rw [h4] at hx; cases hx) hg (by rw [hdp]; omega) (fun _ _ e => e) fin hl
end
def reprLP (τ : Sy) : DCall := fun ds q => ∃ l xs, ds = [.ptr l] ∧ sget τ l = some (.lst xs) ∧ (D.lst xs).plain = true ∧ (D.lst xs).dp ≤ 50 ∧ (D.lst xs).sz ≤ 1000000 ∧ (D.lst xs).py.hasDict = false ∧ q (.str (D.lst xs).py.shown)
theorem cd_reprLP {K : PySem.W.Frag} {R : Res} {τ : Sy} (S : SymAt K τ R) : CallD K R (rReprL K) (reprLP τ) := by
  rintro xs ds H q Q r o ⟨l, ys, rfl, g, h1, h2, h3, h4, w⟩ f
  obtain ⟨x, rfl, rx⟩ := r.one
  cases rx
  obtain ⟨vs, hh, ra⟩ := S H o l _ g
  exact ⟨_, l, vs, ys, rfl, hh, ra, h1, h2, h3, h4, f _ _ H w (.str _) (Ext.refl _ _) o⟩
end Dl

set_option Elab.async false
set_option linter.all false
set_option maxRecDepth 100000
set_option maxHeartbeats 4000000
namespace PySem.SeqAt
open AutoSeq1 (wpAny_loadPart')
open MeetsSeq MeetsSeq2 MeetsSeq3
/-- two tuples, item by item equal: != says False -/
theorem tuple_ne_same {prog : Program} {w : World} (l b : Addr) (xs ys : Array Value) (n m : Nat) (d1 d2 : Option Addr) (sl sl2 : Array (Option Value)) (hsz : xs.size = ys.size) :
    MeetsIn prog w (Builtin.«tuple.__ne__» ⟨[.ref l, .ref b], []⟩)
      (fun A R s => s.heap.get? l = some { cls := .type "tuple", dict := d1, data := .seq xs n, slots := sl } ∧ s.heap.get? b = some { cls := .type "tuple", dict := d2, data := .seq ys m, slots := sl2 } ∧
        (∀ y x, (y, x) ∈ xs.toList.zip ys.toList → EqP prog w A.in1 s y x true) ∧ R (.ok (.ret (.bool false))) s) :=
  .of_wp fun A R s h => by
    obtain ⟨hp, g, d, tk, os⟩ := s; obtain ⟨hl, hb, he, h⟩ := h
    have f2 := AutoSeq1.sub_tuple_tuple
    wp_walk using wpAny_loadPart' hl, wpAny_loadPart' hb, wpAny_forIn_list _ (fun rest b s' => b.1 = none ∧ s' = ⟨hp, g, d, tk, os⟩ ∧ ∀ q ∈ rest, q ∈ xs.toList.zip ys.toList) _
    case turn =>
      rintro ⟨y, x⟩ rest b s' ⟨hb', rfl, hz⟩
      refine wpAny_bind (he y x (hz _ List.mem_cons_self) _ _ ?_)
      wp_walk
      exact ⟨rfl, rfl, fun q hq => hz q (List.mem_cons_of_mem _ hq)⟩
    case fin =>
      rintro ⟨b1, b2⟩ s' ⟨hb', rfl, _⟩
      simp only at hb'
      subst hb'
      wp_walk
      exact ⟨_, rfl, by simpa [Builtin.Tuple.tupleCompareSizes, bne, hsz] using h⟩
    case h => exact ⟨rfl, rfl, fun q hq => hq⟩
end PySem.SeqAt
namespace Dl
open PySem PySem.Spec PyProof.Rows L2
section
variable {X : Cx} {pins : List (Addr × Obj)} {σ : L2.St} {H : Hp} {s : Shared}
mutual
/-- two pieces of the same plain data are equal, dicts in them too -/
theorem sm_run (I : Inv X pins σ H s) {p p' : List Addr} : ∀ (d : D) (n : Nat) (A : Around), d.plain = true → d.dp ≤ n → A.units + n < cLine → ∀ (x y : V) (v u : Value), Rep X.K p H x d → Rep X.K p' H y d → RelV x v → RelV y u → SeqAt.EqP X.prog X.w A s v u true
  | .non, n, A, _, _, _, x, y, v, u, r1, r2, e1, e2 => by cases r1; cases r2; exact (eqAt_same e1 e2 rfl).eqP
  | .bl b, n, A, _, _, _, x, y, v, u, r1, r2, e1, e2 => by cases r1; cases r2; exact (eqAt_same e1 e2 rfl).eqP
  | .int i, n, A, _, _, _, x, y, v, u, r1, r2, e1, e2 => by cases r1; cases r2; exact (eqAt_same e1 e2 rfl).eqP
  | .str t, n, A, _, _, _, x, y, v, u, r1, r2, e1, e2 => by cases r1; cases r2; exact (eqAt_same e1 e2 rfl).eqP
  | .ptr a, n, A, h, _, _, x, y, v, u, r1, r2, e1, e2 => by simp only [D.plain] at h; cases h
  | .seq a, n, A, h, _, _, x, y, v, u, r1, r2, e1, e2 => by simp only [D.plain] at h; cases h
  | .ty a, n, A, h, _, _, x, y, v, u, r1, r2, e1, e2 => by simp only [D.plain] at h; cases h
  | .emp, n, A, _, hd, hu, x, y, v, u, r1, r2, e1, e2 => by
    simp only [D.dp] at hd
    cases r1 with
    | @emp a g1 _ => cases r2 with
      | @emp b g2 _ =>
        obtain rfl : v = Value.ref a := e1
        obtain rfl : u = Value.ref b := e2
        by_cases e : a = b
        · subst e
          exact (SeqAt.EqAt.same _).eqP
        · exact SeqAt.eqP_refs e (eqR_run I (A := A) (F := fun _ _ => False) (x := .ref a) (y := .ref b) (by omega) (fun _ _ _ _ h => h.elim) (.inr ⟨a, b, [], [], rfl, rfl, g1, g2, rfl, fun _ h => by cases h⟩) rfl rfl)
  | .lst ds, n, A, h, hd, hu, x, y, v, u, r1, r2, e1, e2 => by
    simp only [D.plain] at h
    simp only [D.dp] at hd
    cases r1 with
    | @lst a xs _ g1 _ _ k1 => cases r2 with
      | @lst b ys _ g2 _ _ k2 =>
        obtain rfl : v = Value.ref a := e1
        obtain rfl : u = Value.ref b := e2
        by_cases e : a = b
        · subst e
          exact (SeqAt.EqAt.same _).eqP
        · refine SeqAt.eqP_refs e (fun E Q q => ?_)
          obtain ⟨us, t1, p1, _⟩ := I.list (.of g1)
          obtain ⟨ws, t2, p2, _⟩ := I.list (.of g2)
          have hsz : us.toArray.size = ws.toArray.size := by
            rw [List.size_toArray, List.size_toArray, ← t1.length, ← t2.length, k1.length, k2.length]
          refine SeqAt.rcP_lists (e := fun _ => true) p1.isList p2.isList hsz (by omega) (fun j h1 h2 => ?_) E Q ?_
          · simpa using sms_run I ds (n - 1) A.in1 h (by omega) (by show A.units + 1 + (n - 1) < cLine; omega) xs ys us ws k1 k2 t1 t2 j (by simpa using h1) (by simpa using h2)
          · rw [show ((List.range us.toArray.size).all fun _ => true) = true from List.all_eq_true.mpr fun _ _ => rfl]
            exact q
  | .tup ds, n, A, h, hd, hu, x, y, v, u, r1, r2, e1, e2 => by
    simp only [D.plain] at h
    simp only [D.dp] at hd
    cases r1 with
    | @tup a xs _ g1 k1 => cases r2 with
      | @tup b ys _ g2 k2 =>
        obtain rfl : v = Value.ref a := e1
        obtain rfl : u = Value.ref b := e2
        by_cases e : a = b
        · subst e
          exact (SeqAt.EqAt.same _).eqP
        · refine SeqAt.eqP_refs e (fun E Q q => ?_)
          obtain ⟨us, t1, p1, _⟩ := I.tuple g1.sq
          obtain ⟨ws, t2, p2, _⟩ := I.tuple g2.sq
          have hsz : us.toArray.size = ws.toArray.size := by
            rw [List.size_toArray, List.size_toArray, ← t1.length, ← t2.length, k1.length, k2.length]
          refine SeqAt.rcIn_tuples (e := fun _ => true) p1 p2 (by omega) (fun j h1 h2 => ?_) ?_
          · have z := sms_run I ds (n - 1) A.in1 h (by omega) (by show A.units + 1 + (n - 1) < cLine; omega) xs ys us ws k1 k2 t1 t2 j (by simpa using h1) (by simpa using h2)
            intro E' Q' q'
            simpa using z E' Q' q'
          · rw [show ((List.range (min us.toArray.size ws.toArray.size)).all fun _ => true) = true from List.all_eq_true.mpr fun _ _ => rfl, hsz]
            simpa using q
theorem sms_run (I : Inv X pins σ H s) {p p' : List Addr} : ∀ (ds : List D) (n : Nat) (A : Around), D.plains ds = true → D.dps ds ≤ n → A.units + n < cLine → ∀ (xs ys : List V) (us ws : List Value), RepAll X.K p H xs ds → RepAll X.K p' H ys ds → Vals xs us → Vals ys ws →
    ∀ j (h1 : j < us.length) (h2 : j < ws.length), SeqAt.EqP X.prog X.w A s us[j] ws[j] true
  | [], n, A, _, _, _, xs, ys, us, ws, r1, r2, t1, t2, j, h1, h2 => by
    cases r1; cases t1
    exact absurd h1 (Nat.not_lt_zero j)
  | d :: ds, n, A, h, hd, hu, xs, ys, us, ws, r1, r2, t1, t2, j, h1, h2 => by
    simp only [D.plains, Bool.and_eq_true] at h
    simp only [D.dps] at hd
    cases r1 with
    | cons a1 b1 => cases r2 with
      | cons a2 b2 => cases t1 with
        | cons c1 d1 => cases t2 with
          | cons c2 d2 => cases j with
            | zero => exact sm_run I d n A h.1 (by omega) hu _ _ _ _ a1 a2 c1 c2
            | succ j => exact sms_run I ds n A h.2 (by omega) hu _ _ _ _ b1 b2 d1 d2 j (Nat.lt_of_succ_lt_succ h1) (Nat.lt_of_succ_lt_succ h2)
end
theorem zip_all {P : Value → Value → Prop} : ∀ {us ws : List Value}, (∀ j (h1 : j < us.length) (h2 : j < ws.length), P us[j] ws[j]) → ∀ y x, (y, x) ∈ us.zip ws → P y x
  | [], _, _, y, x, h => by cases h
  | _ :: _, [], _, y, x, h => by cases h
  | u :: us, w :: ws, k, y, x, h => by
    rcases List.mem_cons.mp h with h | h
    · cases h
      exact k 0 (Nat.succ_pos _) (Nat.succ_pos _)
    · exact zip_all (fun j h1 h2 => k (j + 1) (Nat.succ_lt_succ h1) (Nat.succ_lt_succ h2)) y x h
/-- the same plain data in two tuples: != says False -/
def rNeSm (K : PySem.W.Frag) : R2 := fun x y H Q => ∃ p p' ds, D.plains ds = true ∧ D.dps ds ≤ 60 ∧ Rep K p H x (.tup ds) ∧ Rep K p' H y (.tup ds) ∧ Q (.bl false) H
theorem op_neSm (hu : X.A.units + 64 < cLine) : OpR X (compareOp .NotEq) (rNeSm X.K) := by
  intro pins s σ H x y v u Q I rx ry h
  obtain ⟨p, p', ds, hp, hd, r1, r2, q⟩ := h
  cases r1 with
  | @tup a xs _ g1 k1 => cases r2 with
    | @tup b ys _ g2 k2 =>
      obtain rfl : v = Value.ref a := rx
      obtain rfl : u = Value.ref b := ry
      obtain ⟨us, t1, p1, _⟩ := I.tuple g1.sq
      obtain ⟨ws, t2, p2, _⟩ := I.tuple g2.sq
      have hsz : us.toArray.size = ws.toArray.size := by
        rw [List.size_toArray, List.size_toArray, ← t1.length, ← t2.length, k1.length, k2.length]
      have he : ∀ y x, (y, x) ∈ us.zip ws → SeqAt.EqP X.prog X.w X.A.in1 s y x true := zip_all fun j h1 h2 => sms_run I ds 60 X.A.in1 hp hd (by show X.A.units + 1 + 60 < cLine; omega) xs ys us ws k1 k2 t1 t2 j h1 h2
      obtain ⟨⟨c1, d1, da1, s1⟩, ho, hc, n, hdd⟩ := id p1
      obtain ⟨⟨c2, d2, da2, s2⟩, ho2, hc2, n2, hd2⟩ := id p2
      simp only at hc hdd hc2 hd2
      subst hc hdd hc2 hd2
      show wpAny _ _ (richCompare .NotEq _ _) _ _ _
      exact wpAny_richCompare_same_room (T := "tuple") (op := .NotEq) ⟨_, ho, rfl⟩ ⟨_, ho2, rfl⟩ PySem.F.slot_tuple_ne (call_meetsIn PySem.F.slot_tuple_ne ⟨_, ho, rfl⟩ PySem.F.entry_tuple_ne (PySem.F.args_tuple_ne_2 _ _) (SeqAt.tuple_ne_same a b _ _ n n2 d1 d2 s1 s2 hsz)
        ⟨ho, ho2, he, (fun x => nomatch x), fin_bl I q rfl⟩) (by omega)
/-- another kind than a tuple's -/
def noTup : D → Bool
  | .non => true | .bl _ => true | .int _ => true | .str _ => true | .lst _ => true | .seq _ => true | .emp => true
  | _ => false
/-- a value of another kind and a tuple are not alike -/
def rNeK (K : PySem.W.Frag) : R2 := fun x y H Q => ∃ p dx b ys, noTup dx = true ∧ Rep K p H x dx ∧ y = .ref b ∧ SqT K H b ys ∧ Q (.bl true) H
theorem op_neK (hu : X.A.units + 64 < cLine) : OpR X (compareOp .NotEq) (rNeK X.K) := by
  intro pins s σ H x y v u Q I rx ry h
  obtain ⟨p, dx, b, ys, hk, r1, rfl, hb, q⟩ := h
  obtain rfl : u = Value.ref b := ry
  obtain ⟨ws, t2, p2, _⟩ := I.tuple hb
  have hu' : X.A.units < cLine := by omega
  have fin := fin_bl (k' := true) I q rfl
  cases r1 with
  | non => cases v with
    | none => exact SeqAt.RcNeAt.none_tuple p2 hu' _ _ _ _ fin
    | _ => exact absurd rx (fun h => nomatch h)
  | bl b1 => cases v with
    | bool b2 => exact SeqAt.RcNeAt.bool_tuple b2 p2 hu' _ _ _ _ fin
    | _ => exact absurd rx (fun h => nomatch h)
  | int i => cases v with
    | int i2 t => exact SeqAt.RcNeAt.int_tuple i2 t p2 hu' _ _ _ _ fin
    | _ => exact absurd rx (fun h => nomatch h)
  | str z => cases v with
    | str z2 t => exact SeqAt.RcNeAt.str_tuple z2 t p2 hu' _ _ _ _ fin
    | _ => exact absurd rx (fun h => nomatch h)
  | @lst a xs _ g _ _ _ =>
    obtain rfl : v = Value.ref a := rx
    obtain ⟨us, t1, p1, _⟩ := I.list (.of g)
    exact SeqAt.RcNeAt.list_tuple p1.isList p2 hu' _ _ _ _ fin
  | @seq a xs _ g _ _ =>
    obtain rfl : v = Value.ref a := rx
    obtain ⟨us, t1, p1, _⟩ := I.list (.of g)
    exact SeqAt.RcNeAt.list_tuple p1.isList p2 hu' _ _ _ _ fin
  | @emp a g _ =>
    obtain rfl : v = Value.ref a := rx
    obtain ⟨_, ya, va, ra, da⟩ := (show ObjOk X.prog X.w H s.heap a (.dK []) from I.hok a _ g)
    obtain ⟨oa, ho, hc⟩ := da.typeIs
    exact ne_dict_tuple ho hc p2 hu' fin
  | tup _ _ => cases hk
  | ptr _ => cases hk
  | ty _ => cases hk
/-- x != (..): False for the same plain data, dicts too; True for x of another kind -/
def nePTS : DOp := fun dx dy q => (∃ ds, dx = .tup ds ∧ dy = .tup ds ∧ D.plains ds = true ∧ D.dps ds ≤ 60 ∧ q (.bl false)) ∨ ∃ ys, dy = .tup ys ∧ noTup dx = true ∧ q (.bl true)
def rNePTS (K : PySem.W.Frag) : R2 := fun x y H Q => rNeSm K x y H Q ∨ rNeK K x y H Q
theorem op_nePTS (hu : X.A.units + 64 < cLine) : OpR X (compareOp .NotEq) (rNePTS X.K) := OpR_or (op_neSm hu) (op_neK hu)
theorem opd_nePTS {R : Res} {K : PySem.W.Frag} : OpD K R (rNePTS K) nePTS := by
  rintro x y dx dy H q Q rx ry o w f
  rcases w with ⟨ds, rfl, rfl, h1, h2, w⟩ | ⟨ys, rfl, h1, w⟩
  · exact .inl ⟨_, _, ds, h1, h2, rx, ry, f _ _ H w (.bl _) (Ext.refl _ _) o⟩
  · cases ry with
    | tup g2 _ => exact .inr ⟨_, dx, _, _, h1, rx, rfl, g2.sq, f _ _ H w (.bl _) (Ext.refl _ _) o⟩
end
end Dl

set_option Elab.async false
set_option linter.all false
set_option maxRecDepth 100000
set_option maxHeartbeats 4000000
namespace Dl
open PySem PySem.Spec PyProof.Rows L2
/-! ## pairs of whole numbers: their order, in a list of them, the least; sorted rows -/

def pairPy (p : Int × Int) : PyData := .tuple [.int p.1, .int p.2]
theorem pair_py (p : Int × Int) : (pairD p).py = pairPy p := by simp only [pairD, pairPy, D.py, D.pys]
theorem pairs_py : ∀ ps : List (Int × Int), D.pys (ps.map pairD) = ps.map pairPy
  | [] => by simp only [List.map_nil, D.pys]
  | p :: ps => by
    simp only [List.map_cons, D.pys]
    rw [pairs_py ps, pair_py]
def ltZ (p q : Int × Int) : Bool := decide (p.1 < q.1 ∨ (p.1 = q.1 ∧ p.2 < q.2))
theorem pair_alike (p q : Int × Int) : PySem.W.alike (pairPy p) (pairPy q) = true := by
  simp only [pairPy, PySem.W.alike, PySem.W.alikeAll, Bool.and_self]
theorem pair_lt (p q : Int × Int) : PySem.W.dataLt (pairPy p) (pairPy q) = ltZ p q := PySem.W.dataLt_ii _ _ _ _
theorem pair_dep (p : Int × Int) : (pairPy p).depth = 1 := by simp [pairPy, PyData.depth, PyData.depthAll]
theorem pair_eqv (p q : Int × Int) : PyData.eqv (pairPy p) (pairPy q) = decide (p = q) := by
  obtain ⟨a, b⟩ := p
  obtain ⟨c, d⟩ := q
  simp only [pairPy, PyData.eqv, PyData.eqvAll, Bool.and_true, Prod.mk.injEq, Bool.decide_and]
  congr 1
theorem Vals.back : ∀ {xs : List V} {us : List Value} {i : Nat} {u : Value}, Vals xs us → us[i]? = some u → ∃ x, xs[i]? = some x ∧ RelV x u
  | _, _, _, _, .nil, e => by simp at e
  | _, _, 0, _, .cons r _, e => by simp at e; subst e; exact ⟨_, rfl, r⟩
  | _, _, i + 1, u, .cons _ t, e => by
    obtain ⟨x, h1, h2⟩ := Vals.back (i := i) (u := u) t (by simpa using e)
    exact ⟨x, by simpa using h1, h2⟩
section
variable {X : Cx} {pins : List (Addr × Obj)} {σ : L2.St} {H : Hp} {s : Shared} {p : List Addr}
theorem pair_sq {K : PySem.W.Frag} {v : V} {q : Int × Int} (r : Rep K p H v (pairD q)) : ∃ a, v = .ref a ∧ SqT K H a [.int q.1, .int q.2] := by
  have r : Rep K p H v (.tup [.int q.1, .int q.2]) := r
  cases r with
  | tup g k =>
    cases k with
    | cons c1 d1 => cases d1 with
      | cons c2 d2 => cases d2; cases c1; cases c2; exact ⟨_, rfl, g.sq⟩
theorem pair_at (I : Inv X pins σ H s) {v : V} {u : Value} {q : Int × Int} (r : Rep X.K p H v (pairD q)) (ru : RelV v u) : ∃ a o n t1 t2, u = .ref a ∧ s.heap.get? a = some o ∧ o.cls = .type "tuple" ∧ o.data = .seq #[.int q.1 t1, .int q.2 t2] n := by
  obtain ⟨a, rfl, hs⟩ := pair_sq r
  obtain rfl : u = Value.ref a := ru
  obtain ⟨its, rv, ⟨o, ho, hc, n, hd⟩, _⟩ := I.tuple hs
  obtain ⟨u1, u2, rfl, ri, rj⟩ := vals2 rv
  obtain ⟨k1, rfl⟩ := ri
  obtain ⟨k2, rfl⟩ := rj
  exact ⟨a, o, n, k1, k2, rfl, ho, hc, by simpa using hd⟩
theorem pair_reads (I : Inv X pins σ H s) {v : V} {u : Value} {q : Int × Int} (r : Rep X.K p H v (pairD q)) (ru : RelV v u) : ∃ as, Reads s.heap u (pairPy q) as := by
  obtain ⟨a, o, n, t1, t2, rfl, ho, hc, hd⟩ := pair_at I r ru
  exact ⟨_, Reads.tuple ho hc hd (.cons (.int _ _) (.cons (.int _ _) .nil))⟩
theorem pairs_reads (I : Inv X pins σ H s) : ∀ {qs : List (Int × Int)} {vs : List V} {us : List Value}, RepAll X.K p H vs (qs.map pairD) → Vals vs us → ∃ as, ReadsAll s.heap us (qs.map pairPy) as
  | [], _, _, r, h => by cases r; cases h; exact ⟨_, .nil⟩
  | q :: qs, _, _, r, h => by
    cases r with
    | cons r1 r2 => cases h with
      | cons h1 h2 =>
        obtain ⟨as, q1⟩ := pair_reads I r1 h1
        obtain ⟨bs, q2⟩ := pairs_reads I r2 h2
        exact ⟨_, .cons q1 q2⟩
end
section
variable {X : Cx} {R : Res} {pos : Pos} {K : PySem.W.Frag}
def rLt2 (K : PySem.W.Frag) : R2 := fun x y H Q => ∃ p p' a b, Rep K p H x (pairD a) ∧ Rep K p' H y (pairD b) ∧ Q (.bl (ltZ a b)) H
def rLe2 (K : PySem.W.Frag) : R2 := fun x y H Q => ∃ p p' a b, Rep K p H x (pairD a) ∧ Rep K p' H y (pairD b) ∧ Q (.bl (!ltZ b a)) H
theorem op_lt2 (hu : X.A.units + 64 < cLine) : OpR X (compareOp .Lt) (rLt2 X.K) := by
  intro pins s σ H x y v u Q I rx ry h
  obtain ⟨p, p', a, b, h1, h2, q⟩ := h
  obtain ⟨as, r1⟩ := pair_reads I h1 rx
  obtain ⟨bs, r2⟩ := pair_reads I h2 ry
  refine PySem.W.lt_data r1 r2 (pair_alike a b) (by simp [pairPy]) (by rw [pair_dep, pair_dep]; omega) ⟨.bl _, H, I, rfl, ?_⟩
  rw [pair_lt]
  exact q
theorem op_le2 (hu : X.A.units + 64 < cLine) : OpR X (compareOp .LtE) (rLe2 X.K) := by
  intro pins s σ H x y v u Q I rx ry h
  obtain ⟨p, p', a, b, h1, h2, q⟩ := h
  obtain ⟨as, r1⟩ := pair_reads I h1 rx
  obtain ⟨bs, r2⟩ := pair_reads I h2 ry
  refine PySem.W.le_data r1 r2 (pair_alike a b) (by simp [pairPy]) (by rw [pair_dep, pair_dep]; omega) ⟨.bl _, H, I, rfl, ?_⟩
  rw [pair_lt]
  exact q
def lt2 : DOp := fun dx dy q => ∃ a b, dx = pairD a ∧ dy = pairD b ∧ q (.bl (ltZ a b))
def le2 : DOp := fun dx dy q => ∃ a b, dx = pairD a ∧ dy = pairD b ∧ q (.bl (!ltZ b a))
theorem opd_lt2 : OpD K R (rLt2 K) lt2 := by
  rintro x y dx dy H q Q rx ry o ⟨a, b, rfl, rfl, w⟩ f
  exact ⟨_, _, a, b, rx, ry, f _ _ H w (.bl _) (Ext.refl _ _) o⟩
theorem opd_le2 : OpD K R (rLe2 K) le2 := by
  rintro x y dx dy H q Q rx ry o ⟨a, b, rfl, rfl, w⟩ f
  exact ⟨_, _, a, b, rx, ry, f _ _ H w (.bl _) (Ext.refl _ _) o⟩
/-! ### a pair in a list of pairs -/
theorem dp_pairs {p : List Addr} {H : Hp} {v : V} {d : D} {ps : List (Int × Int)} (r : Rep K p H v d) (h : lstOf d (ps.map pairD)) : Dp K H v (.list (ps.map pairPy)) := by
  have all : ∀ {vs : List V} {qs : List (Int × Int)}, RepAll K p H vs (qs.map pairD) → DpAll K H vs (qs.map pairPy) := by
    intro vs qs ra
    induction qs generalizing vs with
    | nil => cases ra; exact .nil
    | cons q qs ih =>
      cases ra with
      | cons r t =>
        have := rep_dpE r (by simp only [pairD, D.eqp, D.eqps, Bool.and_self])
        rw [pair_py] at this
        exact .cons this (ih t)
  obtain ⟨a, vs, rfl, ha, ra⟩ := rep_lst r h
  exact .lst (.of ha) (all ra)
theorem shaped_pair (p : Int × Int) : SeqAt.shaped (pairPy p) = true := by
  simp [SeqAt.shaped, pairPy, PyData.canLay0, PyData.canLayAll0, PyData.depth, PyData.depthAll]
theorem shaped_pairs (ps : List (Int × Int)) : SeqAt.shaped (.list (ps.map pairPy)) = true := by
  have h1 : PyData.canLayAll0 (ps.map pairPy) = true := by
    induction ps with
    | nil => simp [PyData.canLayAll0]
    | cons p ps ih => simp [PyData.canLayAll0, ih, pairPy, PyData.canLay0]
  have h2 : PyData.depthAll (ps.map pairPy) ≤ 1 := by
    induction ps with
    | nil => simp [PyData.depthAll]
    | cons p ps ih =>
      have := ih (by
        simp only [List.map_cons, PyData.canLayAll0, Bool.and_eq_true] at h1
        exact h1.2)
      simp only [List.map_cons, PyData.depthAll, pair_dep]
      omega
  unfold SeqAt.shaped
  rw [Bool.and_eq_true, decide_eq_true_eq]
  refine ⟨by simp only [PyData.canLay0]; exact h1, ?_⟩
  simp only [PyData.depth]
  omega
theorem any_pairs (p : Int × Int) : ∀ (ps : List (Int × Int)), (((ps : List (Int × Int)).map pairPy).any fun z => PyData.eqv z (pairPy p)) = decide (p ∈ ps)
  | [] => by simp
  | q :: ps => by
    rw [List.map_cons, List.any_cons, any_pairs p ps, pair_eqv]
    by_cases h : q = p
    · subst h; simp
    · have h' : ¬ p = q := fun e => h e.symm
      simp [h, h']
def inP (neg : Bool) : DOp := fun dx dy q => ∃ (p : Int × Int) (ps : List (Int × Int)), dx = pairD p ∧ lstOf dy (ps.map pairD) ∧ q (.bl (if neg then !decide (p ∈ ps) else decide (p ∈ ps)))
theorem opd_inP : OpD K R (rInD K) (inP false) := by
  rintro x y dx dy H q Q rx ry o ⟨p, ps, rfl, hy, w⟩ f
  have h1 := rep_dpE rx (by simp only [pairD, D.eqp, D.eqps, Bool.and_self])
  rw [pair_py] at h1
  refine ⟨_, _, h1, dp_pairs ry hy, shaped_pair p, shaped_pairs ps, ?_⟩
  rw [any_pairs]
  exact f _ _ H w (.bl _) (Ext.refl _ _) o
theorem opd_notInP : OpD K R (rNotInD K) (inP true) := by
  rintro x y dx dy H q Q rx ry o ⟨p, ps, rfl, hy, w⟩ f
  have h1 := rep_dpE rx (by simp only [pairD, D.eqp, D.eqps, Bool.and_self])
  rw [pair_py] at h1
  refine ⟨_, _, h1, dp_pairs ry hy, shaped_pair p, shaped_pairs ps, ?_⟩
  rw [any_pairs]
  exact f _ _ H w (.bl _) (Ext.refl _ _) o
/-- a list of pairs against [] -/
def neNilP : DOp := fun dx dy q => ∃ ps : List (Int × Int), lstOf dx (ps.map pairD) ∧ lstOf dy [] ∧ q (.bl (!ps.isEmpty))
theorem opd_neNilP : OpD K R (rNeD K) neNilP := by
  rintro x y dx dy H q Q rx ry o ⟨ps, hx, hy, w⟩ f
  have h2 : Dp K H y (.list (([] : List (Int × Int)).map pairPy)) := dp_pairs ry hy
  refine ⟨_, _, dp_pairs rx hx, h2, shaped_pairs ps, shaped_pairs [], ?_⟩
  have e : PyData.eqv (.list (ps.map pairPy)) (.list (([] : List (Int × Int)).map pairPy)) = ps.isEmpty := by
    cases ps <;> simp [PyData.eqv, PyData.eqvAll]
  rw [e]
  exact f _ _ H w (.bl _) (Ext.refl _ _) o
/-! ### min -/
theorem reads_pair {h : Heap} {t : Addr} {o : Obj} {its : Array Value} {n : Nat} {a b m n' : Int} {t1 t2 : Tok} {bs : List Addr} (ho : h.get? t = some o) (hd : o.data = .seq its n) (hi : its.toList = [.int a t1, .int b t2]) (r : Reads h (.ref t) (pairPy (m, n')) bs) : (m, n') = (a, b) := by
  have r : Reads h (.ref t) (.tuple [.int m, .int n']) bs := r
  cases r with
  | tuple g1 g2 g3 g4 =>
    rw [ho] at g1
    cases g1
    rw [hd] at g3
    cases g3
    rw [hi] at g4
    cases g4 with
    | cons q1 q2 => cases q1; cases q2 with
      | cons q3 q4 => cases q3; rfl
theorem minD_pairs : ∀ (ps : List (Int × Int)) (p : Int × Int), ∃ m, PySem.W.minD (pairPy p) (ps.map pairPy) = pairPy m ∧ m ∈ p :: ps ∧ ∀ m' ∈ p :: ps, ltZ m' m = false := by
  intro ps
  induction ps with
  | nil => intro p; exact ⟨p, rfl, by simp, fun m' h => by
      obtain rfl : m' = p := by simpa using h
      simp [ltZ]⟩
  | cons c ps ih =>
    intro p
    have e : PySem.W.minD (pairPy p) ((c :: ps).map pairPy) = PySem.W.minD (pairPy (if ltZ c p = true then c else p)) (ps.map pairPy) := by
      unfold PySem.W.minD
      rw [List.map_cons, List.foldl_cons]
      congr 1
      rw [pair_lt]
      split <;> rfl
    rw [e]
    obtain ⟨m, h1, h2, h3⟩ := ih (if ltZ c p = true then c else p)
    refine ⟨m, h1, ?_, fun m' hm => ?_⟩
    · rcases List.mem_cons.mp h2 with h2 | h2
      · rw [h2]
        split <;> simp
      · simp [h2]
    · have hc := h3 _ List.mem_cons_self
      rcases List.mem_cons.mp hm with rfl | hm
      · by_cases hl : ltZ c m' = true
        · rw [if_pos hl] at hc
          simp only [ltZ, decide_eq_true_eq, decide_eq_false_iff_not] at hl hc ⊢
          omega
        · rw [if_neg hl] at hc
          exact hc
      · rcases List.mem_cons.mp hm with rfl | hm
        · by_cases hl : ltZ m' p = true
          · rw [if_pos hl] at hc
            exact hc
          · rw [if_neg hl] at hc
            simp only [ltZ, decide_eq_true_eq, decide_eq_false_iff_not] at hl hc ⊢
            omega
        · exact h3 _ (List.mem_cons_of_mem _ hm)
def rMin2 (K : PySem.W.Frag) : List V → Hp → VK → Prop := fun vs H Q => ∃ (a : Addr) (xs : List V) (p : List Addr) (ps : List (Int × Int)), vs = [.ref a] ∧ H a = some (.lst xs) ∧ RepAll K p H xs (ps.map pairD) ∧ ps ≠ [] ∧
  ∀ (i : Nat) (x : V) (m : Int × Int), xs[i]? = some x → ps[i]? = some m → (∀ m' ∈ ps, ltZ m' m = false) → Q x H
theorem depth_pairs : ∀ ps : List (Int × Int), PyData.depthAll (ps.map pairPy) ≤ 1
  | [] => by simp [PyData.depthAll]
  | p :: ps => by
    have := depth_pairs ps
    simp only [List.map_cons, PyData.depthAll, pair_dep]
    omega
theorem alike_pairs (ps : List (Int × Int)) : PySem.W.AlikeAll (ps.map pairPy) := ⟨fun x hx y hy => by
  obtain ⟨a, _, rfl⟩ := List.mem_map.mp hx
  obtain ⟨b, _, rfl⟩ := List.mem_map.mp hy
  exact pair_alike a b, fun x hx => by
  obtain ⟨a, _, rfl⟩ := List.mem_map.mp hx
  simp [pairPy]⟩
theorem cr_min2 (hc : X.calm = true) (hu : X.A.units + 64 < cLine) : CallR X (.builtin "min") (rMin2 X.K) := by
  intro pins s σ H vs us Q I r h
  obtain ⟨a, xs, p, ps, rfl, hs, ra, hne, q⟩ := h
  obtain ⟨its, rv, hl, _⟩ := I.list (SqL.of (K := X.K) hs)
  rw [Vals.ref1 r]
  obtain ⟨as, rd⟩ := pairs_reads I ra rv
  cases ps with
  | nil => exact absurd rfl hne
  | cons p0 ps0 =>
    have rd' : ReadsAll s.heap its.toArray.toList (pairPy p0 :: ps0.map pairPy) as := by simpa using rd
    refine PySem.W.min_list_data (I.ok.hd hc) hl.isList rd' (alike_pairs (p0 :: ps0)) ?_ fun i v h' tk bs hv hr hk => ?_
    · have := depth_pairs (p0 :: ps0)
      rw [List.map_cons] at this
      omega
    · obtain ⟨m, e, hm, hle⟩ := minD_pairs ps0 p0
      rw [e] at hr
      have hv' : its[i]? = some v := by simpa using hv
      obtain ⟨x, hx, rx⟩ := Vals.back rv hv'
      obtain ⟨d, hd, rxd⟩ := ra.get' hx
      rw [List.getElem?_map] at hd
      obtain ⟨m2, hm2, rfl⟩ := Option.map_eq_some_iff.mp hd
      have em : m = m2 := by
        obtain ⟨a2, o, n, t1, t2, rfl, ho, hc', hdt⟩ := pair_at I rxd rx
        exact reads_pair (m := m.1) (n' := m.2) (hk _ _ ho) hdt rfl hr
      subst em
      exact ⟨x, H, I.kept hk, rx, q i x m hx hm2 hle⟩
def minC : DCall := fun ds q => ∃ (d : D) (ps : List (Int × Int)), ds = [d] ∧ lstOf d (ps.map pairD) ∧ ps ≠ [] ∧ ∀ m ∈ ps, (∀ m' ∈ ps, ltZ m' m = false) → q (pairD m)
theorem cd_min2 : CallD K R (rMin2 K) minC := by
  rintro xs ds H q Q r o ⟨d, ps, rfl, hd, hne, w⟩ f
  obtain ⟨x, rfl, rx⟩ := r.one
  obtain ⟨a, vs, rfl, ha, ra⟩ := rep_lst rx hd
  refine ⟨a, vs, _, ps, rfl, ha, ra, hne, fun i x m hx hm hle => ?_⟩
  obtain ⟨v, hv, rv⟩ := ra.get (i := i) (d := pairD m) (by rw [List.getElem?_map, hm]; rfl)
  rw [hx] at hv
  cases hv
  exact f _ _ H (w m (List.mem_of_getElem? hm) hle) rv (Ext.refl _ _) o
end
end Dl

set_option Elab.async false
set_option linter.all false
set_option maxRecDepth 100000
set_option maxHeartbeats 4000000
namespace Dl
open PySem PySem.Spec PyProof.Rows L2
/-! ## dicts of the state whose keys are pairs of whole numbers -/
abbrev TkK (P : Program) (w : World) := tupleKind (mixKind P w)
def putP (kvs : List ((Int × Int) × D)) (k : Int × Int) (d : D) : List ((Int × Int) × D) := if (kvs.lookup k).isSome = true then kvs.map (fun x => if x.1 = k then (x.1, d) else x) else kvs ++ [(k, d)]
def dictP (ps : List ((Int × Int) × D)) : List ((Int × Int) × D) := ps.foldl (fun acc p => putP acc p.1 p.2) []
theorem key2_inj {a b : Int × Int} (h : key2 a = key2 b) : a = b := by
  obtain ⟨a1, a2⟩ := a
  obtain ⟨b1, b2⟩ := b
  simp only [key2, List.cons.injEq, Sum.inl.injEq, and_true] at h
  exact Prod.ext h.1 h.2
theorem key2_iff {a b : Int × Int} : key2 a = key2 b ↔ a = b := ⟨key2_inj, fun e => by rw [e]⟩
section
variable {X : Cx} {pins : List (Addr × Obj)} {σ : L2.St} {H : Hp} {s : Shared} {p : List Addr}
theorem key_at (I : Inv X pins σ H s) {b : Addr} {ks : List Key} (h : SqT X.K H b (ks.map kV)) : (TkK X.prog X.w).is s.heap ks b := by
  obtain ⟨its, rv, ⟨o, ho, hc, n, hd⟩, _⟩ := I.tuple h
  exact ⟨o, its.toArray, n, ho, hc, hd, by simpa using items_are rv⟩
theorem rep_key {K : PySem.W.Frag} {b : Addr} {k : Int × Int} (h : Rep K p H (.ref b) (pairD k)) : SqT K H b ((key2 k).map kV) := by
  have h : Rep K p H (.ref b) (.tup [.int k.1, .int k.2]) := h
  cases h with
  | tup g r =>
    cases r with
    | cons r1 t => cases t with
      | cons r2 t2 => cases t2; cases r1; cases r2; exact g.sq
/-- an entry, read: the key's tuple may be any -/
def EntQ (K : PySem.W.Frag) (H : Hp) (kv : (Int × Int) × D) (x : List Key × Addr × Value) : Prop := x.1 = key2 kv.1 ∧ SqT K H x.2.1 ((key2 kv.1).map kV) ∧ flatD kv.2 = true ∧ RelV (dvOf kv.2) x.2.2
theorem EntR.q {K : PySem.W.Frag} {kv : (Int × Int) × D} {x : List Key × Addr × Value} (h : EntR K p H kv x) : EntQ K H kv x := ⟨h.1, rep_key h.2.1, h.2.2⟩
theorem ent_keys {K : PySem.W.Frag} {kvs : List ((Int × Int) × D)} {xs : List (List Key × Addr × Value)} (r : Paired (EntQ K H) kvs xs) : ∀ x ∈ xs, ∃ k, x.1 = key2 k ∧ SqT K H x.2.1 ((key2 k).map kV) := by
  induction r with
  | nil => intro x hx; cases hx
  | @cons a b as bs h t ih =>
    intro x hx
    rcases List.mem_cons.mp hx with rfl | hx
    · exact ⟨a.1, h.1, h.2.1⟩
    · exact ih x hx
theorem dct_full (I : Inv X pins σ H s) {a : Addr} {xs : List (List Key × Addr × Value)} {kvs : List ((Int × Int) × D)} {ob : Obj} (e : H a = some (DctO X.prog X.w a xs ob)) (r : Paired (EntQ X.K H) kvs xs) :
    s.heap.DictOfH (TkK X.prog X.w) a xs ∧ (a == sysModules) = false ∧ xs.length ≤ sizeLine := by
  obtain ⟨⟨hz, hs, h1, es, ep, h2, h3, h4, h5⟩, _⟩ := I.hok a _ e
  refine ⟨⟨ob, es, ep, h1, h2, h3, h4, fun x hx => ?_, h5⟩, hs, hz⟩
  obtain ⟨k, e1, e2⟩ := ent_keys r x hx
  rw [e1]
  exact key_at I e2
theorem ent_at {K : PySem.W.Frag} {kvs : List ((Int × Int) × D)} {xs : List (List Key × Addr × Value)} (r : Paired (EntQ K H) kvs xs) (k : Int × Int) : (∀ d, kvs.lookup k = some d → ∃ pr, atKey xs (key2 k) = some pr ∧ flatD d = true ∧ RelV (dvOf d) pr.2) ∧ (kvs.lookup k = none → atKey xs (key2 k) = none) := by
  induction r with
  | nil => exact ⟨fun d h => (by cases h), fun _ => rfl⟩
  | @cons a b as bs h t ih =>
    obtain ⟨a1, a2⟩ := a
    obtain ⟨b1, b2⟩ := b
    obtain ⟨e1, _, f, rv⟩ := h
    have e1 : b1 = key2 a1 := e1
    rw [List.lookup_cons]
    by_cases q : k = a1
    · subst q
      have e2 : atKey ((b1, b2) :: bs) (key2 k) = some b2 := by simp [atKey, e1]
      rw [e2, beq_self_eq_true]
      exact ⟨fun d hd => by cases hd; exact ⟨b2, rfl, f, rv⟩, fun hd => by cases hd⟩
    · have e2 : atKey ((b1, b2) :: bs) (key2 k) = atKey bs (key2 k) := by
        have : ¬ b1 = key2 k := fun z => q (key2_inj (e1.symm.trans z).symm)
        simp [atKey, this]
      rw [e2, beq_false_of_ne q]
      exact ih
theorem ent_some {K : PySem.W.Frag} {kvs : List ((Int × Int) × D)} {xs : List (List Key × Addr × Value)} (r : Paired (EntQ K H) kvs xs) (k : Int × Int) : (atKey xs (key2 k)).isSome = (kvs.lookup k).isSome := by
  cases e : kvs.lookup k with
  | none => rw [(ent_at r k).2 e]; rfl
  | some d => obtain ⟨pr, h, _⟩ := (ent_at r k).1 d e; rw [h]; rfl
theorem ent_put {K : PySem.W.Frag} {kvs : List ((Int × Int) × D)} {xs : List (List Key × Addr × Value)} {k : Int × Int} {d : D} {b : Addr} {u : Value} (r : Paired (EntR K p H) kvs xs) (n : EntR K p H (k, d) (key2 k, b, u)) : Paired (EntR K p H) (putP kvs k d) (storedH xs (key2 k) b u) := by
  unfold putP storedH
  rw [ent_some (Paired.mapP r fun _ _ z => z.q)]
  split
  · rename_i hh
    clear hh
    induction r with
    | nil => exact .nil
    | @cons a c as bs h t ih =>
      rw [List.map_cons, List.map_cons]
      refine .cons ?_ ih
      by_cases q : a.1 = k
      · rw [if_pos q, show PySem.putAt (key2 k) u c = (c.1, c.2.1, u) from if_pos (by rw [h.1, q])]
        exact ⟨h.1, h.2.1, n.2.2⟩
      · rw [if_neg q, show PySem.putAt (key2 k) u c = c from if_neg (fun z => q (key2_inj (h.1.symm.trans z)))]
        exact h
  · exact Paired.snoc r n
theorem ent_dict {K : PySem.W.Frag} : ∀ {ps : List ((Int × Int) × D)} {ys : List (List Key × Addr × Value)}, Paired (EntR K p H) ps ys → ∀ {kvs : List ((Int × Int) × D)} {xs : List (List Key × Addr × Value)}, Paired (EntR K p H) kvs xs →
    Paired (EntR K p H) (ps.foldl (fun acc p => putP acc p.1 p.2) kvs) (storedAllH xs ys) := by
  intro ps ys r
  induction r with
  | nil => intro kvs xs h; exact h
  | @cons a c as bs h t ih =>
    intro kvs xs g
    have h' : EntR K p H (a.1, a.2) (key2 a.1, c.2.1, c.2.2) := ⟨rfl, h.2⟩
    have := ih (ent_put g h')
    unfold storedAllH at this ⊢
    rw [List.foldl_cons, List.foldl_cons]
    rw [← h.1] at this
    exact this
theorem storedAll_len (xs ys : List (List Key × Addr × Value)) : (storedAllH xs ys).length ≤ xs.length + ys.length := storedAllH_length ys xs
end
/-! ### read -/
section
variable {X : Cx} {R : Res} {τ : Sy} {pos : Pos}
/-- the dict is known, also below a list that is being made -/
def DctAt (K : PySem.W.Frag) (τ : Sy) (R : Res) : Prop := ∀ H, Pot R H → ∀ a P w kvs, sget τ a = some (.dct P w kvs) → ∃ xs ob, H a = some (DctO P w a xs ob) ∧ Paired (EntQ K H) kvs xs
theorem DctAt.add {K : PySem.W.Frag} {A : Addr} (h : DctAt K τ R) : DctAt K τ (R.add A) := fun H s => h H (Pot.of_add s)
theorem DctAt.of {K : PySem.W.Frag} (S : SymAt K τ R) : DctAt K τ R := fun H s a P w kvs g => by
  obtain ⟨xs, ob, hh, ra⟩ := S H s a _ g
  exact ⟨xs, ob, hh, Paired.mapP ra fun _ _ z => z.q⟩
theorem dct_typeIs {pins : List (Addr × Obj)} {σ : L2.St} {H : Hp} {s : Shared} {a : Addr} {xs : List (List Key × Addr × Value)} {kvs : List ((Int × Int) × D)} (I : Inv X pins σ H s) {ob : Obj} (e : H a = some (DctO X.prog X.w a xs ob)) (r : Paired (EntQ X.K H) kvs xs) :
    s.TypeIs (.ref a) "dict" ∧ (∀ b, Value.ref a = .ref b → ∃ ob, s.heap.get? b = some ob ∧ ob.dict = none) := by
  obtain ⟨⟨o, es, ep, h1, h2, _⟩, _⟩ := dct_full I e r
  exact ⟨⟨o, h1, h2.1⟩, fun b e => by cases e; exact ⟨o, h1, h2.2.1⟩⟩
def tTGet (K : PySem.W.Frag) (P : Program) (w : World) (td ty : TE) : TE := fun σ H Q => td σ H fun x H1 => ty σ H1 fun y H2 => ∃ a kvs xs ob b k d, x = .ref a ∧ H2 a = some (DctO P w a xs ob) ∧ Paired (EntQ K H2) kvs xs ∧ y = .ref b ∧ SqT K H2 b ((key2 k).map kV) ∧ kvs.lookup k = some d ∧ Q (dvOf d) H2
theorem pe_tget {o i : Expr} {td ty : TE} (hu : X.A.units + 1 < cLine) (ho : PE X o td) (hi : PE X i ty) (hs : NoSl i) : PE X (.Subscript o i pos) (tTGet X.K X.prog X.w td ty) := by
  refine ⟨fun pins s σ H Q I h => ?_⟩
  refine subD_of PySem.F.slot_dict_getitem.lookup hs (thn (ho.run pins s σ H _ I h) fun u s1 ⟨x, H1, I1, rx, q1⟩ => thn (hi.run pins s1 σ H1 _ I1 q1) fun iv s2 ⟨y, H2, I2, ry, a, kvs, xs, ob, b, k, d, ex, hh, r, ey, hb, hv, q2⟩ => ?_)
  subst ex ey
  obtain rfl : u = Value.ref a := rx
  obtain rfl : iv = Value.ref b := ry
  obtain ⟨dd, _, _⟩ := dct_full I2 hh r
  obtain ⟨pr, e, _, rv⟩ := (ent_at r k).1 d hv
  exact ⟨(dct_typeIs I2 hh r).1, wpAny_getItem_heap (tupleKind_room_in1 hu) (key_at I2 hb) dd e ⟨dvOf d, H2, I2.tok _, rv, q2⟩⟩
theorem rep_dv {K : PySem.W.Frag} {p : List Addr} {H : Hp} {d : D} (h : flatD d = true) : Rep K p H (dvOf d) d := by
  cases d <;> first | exact .non | exact .bl _ | exact .int _ | exact .str _ | cases h
theorem pair_ref {K : PySem.W.Frag} {p : List Addr} {H : Hp} {v : V} {k : Int × Int} (r : Rep K p H v (pairD k)) : ∃ b, v = .ref b := by
  have r : Rep K p H v (.tup [.int k.1, .int k.2]) := r
  cases r
  exact ⟨_, rfl⟩
def vTGet (P : Program) (w : World) (τ : Sy) (t tk : TDE) : TDE := fun ρ q => t ρ fun d => tk ρ fun kd => ∃ a kvs k v, d = .ptr a ∧ sget τ a = some (.dct P w kvs) ∧ kd = pairD k ∧ kvs.lookup k = some v ∧ q v
theorem d_tget {o i : Expr} {t tk : TDE} (P : Program) (w : World) (hP : X.prog = P) (hw : X.w = w) (S : DctAt X.K τ R) (hu : X.A.units + 1 < cLine) (ho : EE X R o t) (hi : EE X R i tk) (hs : NoSl i := by intro _ _; rfl) : EE X R (.Subscript o i pos) (vTGet P w τ t tk) := PE_imp (pe_tget hu ho hi hs) fun σ H Q ⟨ρ, q, r, o, w, fi⟩ => by
  subst hP hw
  refine ⟨ρ, _, r, o, w, fun d x H1 w1 r1 e1 o1 => ⟨ρ, _, r.mono e1, o1, w1, ?_⟩⟩
  rintro kd y H2 ⟨a, kvs, k, v, rfl, g, rfl, hv, w2⟩ r2 e2 o2
  cases r1
  obtain ⟨xs, ob, hh, ra⟩ := S H2 o2 a _ _ _ g
  obtain ⟨b, rfl⟩ := pair_ref r2
  obtain ⟨pr, _, fd, _⟩ := (ent_at ra k).1 v hv
  exact ⟨a, kvs, xs, ob, b, k, v, rfl, hh, ra, rfl, rep_key r2, hv, fi _ _ H2 w2 (rep_dv fd) (e1.trans e2) o2⟩
/-- k in o, k not in o -/
def rTIn (K : PySem.W.Frag) (P : Program) (w : World) (neg : Bool) : R2 := fun y x H Q => ∃ a kvs xs ob b k, x = .ref a ∧ H a = some (DctO P w a xs ob) ∧ Paired (EntQ K H) kvs xs ∧ y = .ref b ∧ SqT K H b ((key2 k).map kV) ∧ Q (.bl (if neg then !(kvs.lookup k).isSome else (kvs.lookup k).isSome)) H
theorem op_tin (hu : X.A.units + 1 < cLine) : OpR X (compareOp .In) (rTIn X.K X.prog X.w false) := by
  intro pins s σ H y x v u Q I ry rx h
  obtain ⟨a, kvs, xs, ob, b, k, rfl, hh, r, rfl, hb, q⟩ := h
  obtain rfl : u = Value.ref a := rx
  obtain rfl : v = Value.ref b := ry
  obtain ⟨dd, hs, _⟩ := dct_full I hh r
  refine wpAny_in_heap (tupleKind_room_in1 hu) (key_at I hb) hs dd ?_
  rw [ent_some r]
  exact ⟨.bl _, H, I.tok _, rfl, q⟩
theorem op_tnotin (hu : X.A.units + 1 < cLine) : OpR X (compareOp .NotIn) (rTIn X.K X.prog X.w true) := by
  intro pins s σ H y x v u Q I ry rx h
  obtain ⟨a, kvs, xs, ob, b, k, rfl, hh, r, rfl, hb, q⟩ := h
  obtain rfl : u = Value.ref a := rx
  obtain rfl : v = Value.ref b := ry
  obtain ⟨dd, hs, _⟩ := dct_full I hh r
  refine wpAny_notIn_heap (tupleKind_room_in1 hu) (key_at I hb) hs dd ?_
  rw [ent_some r]
  exact ⟨.bl _, H, I.tok _, rfl, q⟩
def tinD (P : Program) (w : World) (τ : Sy) (neg : Bool) : DOp := fun dy dx q => ∃ a kvs k, dx = .ptr a ∧ sget τ a = some (.dct P w kvs) ∧ dy = pairD k ∧ q (.bl (if neg then !(kvs.lookup k).isSome else (kvs.lookup k).isSome))
theorem opd_tin {K : PySem.W.Frag} {P : Program} {w : World} {neg : Bool} (S : DctAt K τ R) : OpD K R (rTIn K P w neg) (tinD P w τ neg) := by
  rintro y x dy dx H q Q ry rx o ⟨a, kvs, k, rfl, g, rfl, w1⟩ f
  cases rx
  obtain ⟨xs, ob, hh, ra⟩ := S H o a _ _ _ g
  obtain ⟨b, rfl⟩ := pair_ref ry
  exact ⟨a, kvs, xs, ob, b, k, rfl, hh, ra, rfl, rep_key ry, f _ _ H w1 (.bl _) (Ext.refl _ _) o⟩
/-! ### o.get(k, x) of a dict of the state, of whole numbers -/
def AllInts (kvs : List (Key × D)) : Prop := ∀ x ∈ kvs, ∃ i, x.2 = .int i
def IntdAt (τ : Sy) (R : Res) : Prop := ∀ H, Pot R H → ∀ m kvs, sget τ m = some (.dic kvs) → AllInts kvs → ∃ ks, H m = some (.dK ks) ∧ ∀ k, valV ks k = (valD kvs k).map dvOf
theorem IntdAt.add {A : Addr} (h : IntdAt τ R) : IntdAt τ (R.add A) := fun H s => h H (Pot.of_add s)
theorem valD_mem {kvs : List (Key × D)} {k : Key} {d : D} (h : valD kvs k = some d) : ∃ x ∈ kvs, x.2 = d := by
  unfold valD at h
  obtain ⟨x, hx, e⟩ := Option.map_eq_some_iff.mp h
  exact ⟨x, List.mem_of_find?_eq_some hx, e⟩
theorem IntdAt.of {K : PySem.W.Frag} (S : SymAt K τ R) : IntdAt τ R := fun H s m kvs g ai => by
  obtain ⟨ks, hh, ra⟩ := S H s m _ g
  refine ⟨ks, hh, fun k => ?_⟩
  cases e : valD kvs k with
  | none => exact (val_of ra).2 e
  | some d =>
    obtain ⟨u, hu, ru⟩ := (val_of ra).1 _ e
    obtain ⟨x, hx, ex⟩ := valD_mem e
    obtain ⟨i, hi⟩ := ai x hx
    rw [hi] at ex
    subst ex
    cases ru
    exact hu
def vDgetD (τ : Sy) (t tk tx : TDE) : TDE := fun ρ q => t ρ fun d => (∃ m kvs, d = .ptr m ∧ sget τ m = some (.dic kvs) ∧ AllInts kvs) ∧ tk ρ fun kd => tx ρ fun xd => ∃ m kvs k i, d = .ptr m ∧ sget τ m = some (.dic kvs) ∧ keyD kd = some k ∧ xd = .int i ∧ q ((valD kvs k).getD (.int i))
theorem d_dgetD {o e f : Expr} {apos cpos : Pos} {t tk tx : TDE} (S : IntdAt τ R) (hu : X.A.units + 1 < cLine) (ho : EE X R o t) (he : EE X R e tk) (hf : EE X R f tx) (m : M2 X o "get" apos e f cpos := by exact ⟨rfl, rfl, rfl, rfl⟩) : EE X R (.Call (.Attribute o "get" apos) [e, f] [] cpos) (vDgetD τ t tk tx) :=
  PE_imp (pe_dget2 hu ho he hf m) fun σ H Q ⟨ρ, q, r, o, w, fi⟩ => by
  refine ⟨ρ, _, r, o, w, ?_⟩
  rintro d x H1 ⟨⟨m, kvs, rfl, g, ai⟩, w1⟩ r1 e1 o1
  cases r1
  obtain ⟨ks, hh, _⟩ := S H1 o1 m kvs g ai
  refine ⟨m, rfl, .inl ⟨ks, .of hh⟩, ρ, _, r.mono e1, o1, w1, fun kd y H2 w2 r2 e2 o2 => ?_⟩
  refine ⟨ρ, _, r.mono (e1.trans e2), o2, w2, ?_⟩
  rintro xd z H3 ⟨m', kvs', k, i, em, g', hk, rfl, w3⟩ r3 e3 o3
  cases em
  rw [g] at g'
  cases g'
  obtain ⟨ks3, hh3, hv3⟩ := S H3 o3 m kvs g ai
  have ek := key_rep r2 hk
  subst ek
  cases r3
  refine ⟨valV ks3 k, DGet.k hh3, ?_⟩
  rw [hv3 k]
  cases ev : valD kvs k with
  | none =>
    rw [ev] at w3
    exact fi _ _ H3 w3 (.int i) ((e1.trans e2).trans e3) o3
  | some d =>
    obtain ⟨x, hx, ex⟩ := valD_mem ev
    obtain ⟨j, hj⟩ := ai x hx
    rw [hj] at ex
    subst ex
    rw [ev] at w3
    exact fi _ _ H3 w3 (.int j) ((e1.trans e2).trans e3) o3
/-! ### its keys, in turn -/
def ItD (P : Program) (w : World) (d : Addr) (xs : List (List Key × Addr × Value)) (o : Obj) : It :=
  ⟨fun i H => H d = some (DctO P w d xs o) ∧ i < xs.length, fun i H x H' => H' = H ∧ ∃ y, xs[i]? = some y ∧ x = .ref y.2.1, fun i H => H d = some (DctO P w d xs o) ∧ xs.length ≤ i⟩
theorem dct_raw {pins : List (Addr × Obj)} {σ : L2.St} {H : Hp} {s : Shared} {a : Addr} {xs : List (List Key × Addr × Value)} {o : Obj} (I : Inv X pins σ H s) (e : H a = some (DctO X.prog X.w a xs o)) :
    (a == sysModules) = false ∧ s.heap.get? a = some o ∧ ∃ es ep, o.ExactDict ∧ o.data = .dict es ep ∧ es.size = xs.length ∧ ∀ (i : Nat) (y : List Key × Addr × Value), xs[i]? = some y → ∃ en, es[i]? = some en ∧ en.key = .ref y.2.1 := by
  obtain ⟨⟨hz, hs, h1, es, ep, h2, h3, h4, h5⟩, _⟩ := I.hok a _ e
  refine ⟨hs, h1, es, ep, h2, h3, size_of_entries h4, fun i y hy => ?_⟩
  have q := entry_at h4 i
  rw [hy] at q
  exact ⟨_, q, rfl⟩
theorem turn_dct {P : Program} {w : World} {K : PySem.W.Frag} {tg : Expr} {d : Addr} {o : Obj} {es : Array DictEntry} {ep : Nat} {xs : List (List Key × Addr × Value)} (it : Addr) (hod : o.data = .dict es ep) :
    Turn P w K tg (ItD P w d xs o) [it] it (fun i h => h.IsKeyIter it d i xs.length ep) := by
  refine ⟨by simp, fun i h st b hb => ?_, fun i h h' st k => st.at fun oi e => k it (by simp) oi e, ?_, ?_, ?_⟩
  · obtain rfl : b = it := by simpa using hb
    obtain ⟨oi, e, c, dd⟩ := st
    exact ⟨oi, e, fun v z => by rw [dd] at z; cases z⟩
  · intro X hP hw hK hc i pins s σ H E I hf st hg
    subst hP hw hK
    obtain ⟨hd, hi⟩ := hg
    obtain ⟨f0, f1, f2, f3, f4, f5⟩ := hf it (by simp)
    obtain ⟨hs, ho, es', ep', hx, hdt, hsz, ent⟩ := dct_raw I hd
    obtain ⟨rfl, rfl⟩ := dict_ep hod hdt
    obtain ⟨en, hen, hkey⟩ := ent i _ (List.getElem?_eq_getElem hi)
    refine next_key_item st ho hdt hsz hen fun h' st' sb => ?_
    have I1 : Inv X pins σ H { s with heap := h' } := I.turned (t' := s.toks) (fun b ob hb e => (sb.2 b hb).trans e) f0 f1 f3 f4 f5
    obtain ⟨oi, e, c, dd⟩ := id st'
    exact ⟨en.key, rfl, go_of (s := { s with heap := h' }) e c dd (by decide) ⟨.ref _, H, I1, hkey, ⟨rfl, _, List.getElem?_eq_getElem hi, rfl⟩, st', fun b hb => (hf b hb).1⟩⟩
  · intro X hP hw hK hc i pins s σ H E I hf st hg
    subst hP hw hK
    obtain ⟨hd, hi⟩ := hg
    obtain ⟨f0, f1, f2, f3, f4, f5⟩ := hf it (by simp)
    obtain ⟨hs, ho, es', ep', hx, hdt, hsz, ent⟩ := dct_raw I hd
    obtain ⟨rfl, rfl⟩ := dict_ep hod hdt
    exact next_key_end (I.ok.hd hc) st ho hdt hsz hi fun h' eb => ⟨rfl, I.turned (t' := s.toks) (fun b ob hb e => eb b ob hb e) f0 f1 f3 f4 f5⟩
  · intro A i s Q E st h
    refine wpAny_pyIter_slot st.typeIs F.slot_dict_keyiterator_iter (wpAny_call_entry F.slot_dict_keyiterator_iter st.typeIs F.entry_dict_keyiterator_iter ?_ (F.args_dict_keyiterator_iter_1 _))
    show wpAny _ _ (ret (.ref it)) _ _ s
    exact wpAny_pure ⟨_, rfl, "dict_keyiterator", _, st.typeIs, F.slot_dict_keyiterator_next.lookup, h⟩
def iDctT (P : Program) (w : World) (td : TE) : TI := fun σ H R => td σ H fun x H1 => ∃ d xs o, x = .ref d ∧ H1 d = some (DctO P w d xs o) ∧ R (ItD P w d xs o) H1
theorem pi_dct {tg e : Expr} {td : TE} (he : PE X e td) : PI X tg e (iDctT X.prog X.w td) := by
  refine ⟨fun pins s σ H R I h => ?_⟩
  refine thn (he.run pins s σ H _ I h) fun u s1 ⟨x, H1, I1, rx, d, xs, o, ex, hd, q⟩ => ?_
  subst ex
  obtain rfl : u = Value.ref d := rx
  obtain ⟨hs, ho, es, ep, hx, hdt, hsz, ent⟩ := dct_raw I1 hd
  refine iter_keys hs ho hx hdt (pi_one (tk := s1.toks) I1 _ (turn_dct _ hdt) ⟨_, Heap.get?_push_size _ rfl, rfl, ?_⟩ q)
  rw [hsz] <;> rfl
theorem walk_dct {P : Program} {w : World} {d : Addr} {xs : List (List Key × Addr × Value)} {o : Obj} : L2.Walk (ItD P w d xs o) xs.length (fun H => H d = some (DctO P w d xs o)) (fun i H x H' => H' = H ∧ ∃ y, xs[i]? = some y ∧ x = .ref y.2.1) :=
  ⟨fun _ _ hi q => ⟨q, hi⟩, fun _ q => ⟨q, Nat.le_refl _⟩, fun _ _ _ _ _ _ y => y⟩
theorem paired_back {α β : Type} {G : α → β → Prop} {l₁ : List α} {l₂ : List β} (h : Paired G l₁ l₂) : ∀ {i : Nat} {b : β}, l₂[i]? = some b → ∃ a, l₁[i]? = some a ∧ G a b := by
  induction h with
  | nil => intro i b e; simp at e
  | @cons a b l₁ l₂ r t ih =>
    intro i b' e
    cases i with
    | zero =>
      simp only [List.getElem?_cons_zero, Option.some.injEq] at e
      subst e
      exact ⟨a, rfl, r⟩
    | succ j =>
      simp only [List.getElem?_cons_succ] at e ⊢
      exact ih e
def iDct (P : Program) (w : World) (τ : Sy) (t : TDE) : TDI := fun ρ q => t ρ fun d => ∃ a kvs, d = .ptr a ∧ sget τ a = some (.dct P w kvs) ∧ q (kvs.map fun kv => pairD kv.1)
theorem i_dct {tg e : Expr} {t : TDE} (P : Program) (w : World) (hP : X.prog = P) (hw : X.w = w) (S : SymAt X.K τ R) (S' : SymP τ R) (he : EE X R e t) : EIP X R tg e (iDct P w τ t) := PI_imp (pi_dct he) fun σ H W ⟨ρ, q, r, o, w, f⟩ => by
  subst hP hw
  refine ⟨ρ, _, r, o, w, ?_⟩
  rintro d v H1 ⟨a, kvs, rfl, g, w1⟩ r1 e1 o1
  cases r1
  obtain ⟨xs, ob, hh, ra⟩ := S H1 o1 a _ g
  have nl := S' H1 o1 a _ g
  refine ⟨a, xs, ob, rfl, hh, f _ _ H1 w1 ⟨fun H => H a = some (DctO X.prog X.w a xs ob), fun i H x H' => H' = H ∧ ∃ y, xs[i]? = some y ∧ x = .ref y.2.1, ?_, fun H' e => e _ _ nl hh, ?_⟩ e1 o1⟩
  · rw [List.length_map, Paired.length ra]; exact walk_dct
  · rintro i H2 x H3 hil e2 ⟨rfl, y, hy, rfl⟩
    obtain ⟨kv, h1, h2⟩ := paired_back ra hy
    exact ⟨rfl, pairD kv.1, by rw [List.getElem?_map, h1]; rfl, h2.2.1⟩
theorem i_toP {tg e : Expr} {t : TDI} (h : EI X R tg e t) : EIP X R tg e t := PI_imp h fun σ H W ⟨ρ, q, r, o, w, f⟩ => ⟨ρ, q, r, o, w, fun ds J H' hq ⟨G, Y, wk, gs, ys⟩ e1 o1 =>
  f ds J H' hq ⟨G, Y, wk, fun H2 e => gs H2 (Ext.av e), fun i H2 x H3 hi e2 y => ys i H2 x H3 hi (Ext.av e2) y⟩ e1 o1⟩
end
end Dl

set_option Elab.async false
set_option linter.all false
set_option maxRecDepth 100000
set_option maxHeartbeats 4000000
namespace Dl
open PySem PySem.Spec PyProof.Rows L2
/-! ## dict(list of pairs), its keys pairs of whole numbers; a comprehension with a test; sorted rows -/
section
variable {X : Cx} {pins : List (Addr × Obj)} {σ : L2.St} {H : Hp} {s : Shared} {p : List Addr}
def entD (x : (Int × Int) × D) : D := .tup [pairD x.1, x.2]
theorem ent_pairs (I : Inv X pins σ H s) : ∀ {ps : List ((Int × Int) × D)} {vs : List V} {us : List Value}, RepAll X.K p H vs (ps.map entD) → (∀ x ∈ ps, flatD x.2 = true) → Vals vs us →
    ∃ (Ts : List Addr) (ys : List (List Key × Addr × Value)), us = Ts.map Value.ref ∧ Paired (EntR X.K p H) ps ys ∧ ∀ (j : Nat) T y, Ts[j]? = some T → ys[j]? = some y → PairAt s.heap T (.ref y.2.1) y.2.2
  | [], _, _, r, _, h => by cases r; cases h; exact ⟨[], [], rfl, .nil, fun j T y e => by simp at e⟩
  | q :: ps, _, _, r, f, h => by
    cases r with
    | cons r1 r2 => cases h with
      | cons h1 h2 =>
        obtain ⟨Ts, ys, e1, e2, e3⟩ := ent_pairs I r2 (fun x hx => f x (List.mem_cons_of_mem _ hx)) h2
        have r1 : Rep X.K p H _ (.tup [pairD q.1, q.2]) := r1
        cases r1 with
        | @tup T xs _ g k =>
          cases k with
          | cons c1 d1 => cases d1 with
            | cons c2 d2 =>
              cases d2
              obtain ⟨its, rv, ⟨o, ho, hc, n, hd⟩, _⟩ := I.tuple g.sq
              obtain ⟨u1, u2, rfl, ri, rj⟩ := vals2 rv
              obtain ⟨b, rfl⟩ := pair_ref c1
              obtain rfl : u1 = Value.ref b := ri
              have fq := f q List.mem_cons_self
              obtain ⟨ev, _⟩ := flat_eq c2 fq
              subst ev
              subst e1
              cases h1
              refine ⟨T :: Ts, (key2 q.1, b, u2) :: ys, rfl, .cons ⟨rfl, c1, fq, rj⟩ e2, fun j T' y hT hy => ?_⟩
              cases j with
              | zero =>
                simp only [List.getElem?_cons_zero, Option.some.injEq] at hT hy
                subst hT hy
                exact .inl ⟨o, ho, hc, n, by simpa using hd⟩
              | succ j =>
                simp only [List.getElem?_cons_succ] at hT hy
                exact e3 j T' y hT hy
theorem paired_refs {us : List Value} {Ts : List Addr} {ys : List (List Key × Addr × Value)} (e : us = Ts.map Value.ref) (h : Ts.length = ys.length) : us.length = (ys.map fun y => ((Value.ref y.2.1, y.2.2) : Value × Value)).length := by
  rw [e, List.length_map, List.length_map, h]
def rDictT (K : PySem.W.Frag) (P : Program) (w : World) : List V → Hp → VK → Prop := fun xs H Q => ∃ (a : Addr) (p : List Addr) (vs : List V) (ps : List ((Int × Int) × D)), xs = [.ref a] ∧ H a = some (.lst vs) ∧ RepAll K p H vs (ps.map entD) ∧ (∀ x ∈ ps, flatD x.2 = true) ∧
  ∀ l ys o, H l = none → Paired (EntR K p H) (dictP ps) ys → Q (.ref l) (upd H l (DctO P w l ys o))
theorem cr_dictT (hcalm : X.calm = true) (hu : X.A.units + 64 < cLine) : CallR X (.type "dict") (rDictT X.K X.prog X.w) := by
  intro pins s σ H xs us Q I r q
  obtain ⟨a, p, vs, ps, rfl, ha, ra, fl, q⟩ := q
  rw [Vals.ref1 r]
  obtain ⟨its, rv, ⟨o, n, ho, hc, hdt, hdat⟩, hz⟩ := I.list (SqL.of (K := X.K) ha)
  obtain ⟨Ts, ys, e1, e2, e3⟩ := ent_pairs I ra fl rv
  have l1 : vs.length = ps.length := by rw [ra.length, List.length_map]
  have l2 : its.length = vs.length := rv.length.symm
  have l3 : ps.length = ys.length := Paired.length e2
  have l4 : Ts.length = its.length := by rw [e1, List.length_map]
  have l5 : vs.length ≤ sizeLine := hz
  refine call_dict_pairsH (knd := TkK X.prog X.w) (ps := ys) (PairArg.list a its.toArray (fun j => Ts.getD j 0) (ys.map fun y => (Value.ref y.2.1, y.2.2))) (I.ok.hd hcalm) (show X.A.units + 1 + 1 < cLine by omega) ⟨⟨o, n, ho, hc, hdt, hdat⟩, ?_, ?_⟩ ⟨by rw [List.length_map], ?_⟩ ?_ (by rw [List.length_map]; omega) ?_
  · rw [List.size_toArray, List.length_map]
    omega
  · intro j k v hj
    rw [List.getElem?_map] at hj
    obtain ⟨y, hy, e⟩ := Option.map_eq_some_iff.mp hj
    cases e
    have hjl : j < ys.length := (List.getElem?_eq_some_iff.mp hy).1
    have hT : Ts[j]? = some (Ts.getD j 0) := by
      rw [List.getD_eq_getElem?_getD, List.getElem?_eq_getElem (by omega)]
      rfl
    refine ⟨?_, e3 j _ y hT hy⟩
    rw [e1]
    simp only [List.getElem?_toArray, List.getElem?_map, hT, Option.map_some]
  · intro i key v hi
    have hi : (ys.map fun y => ((Value.ref y.2.1, y.2.2) : Value × Value))[i]? = some (key, v) := hi
    rw [List.getElem?_map] at hi
    obtain ⟨y, hy, e⟩ := Option.map_eq_some_iff.mp hi
    cases e
    exact ⟨y.1, y.2.1, hy, rfl⟩
  · intro h' hk x hx
    obtain ⟨k, f1, f2⟩ := ent_keys (Paired.mapP e2 fun _ _ z => z.q) x hx
    rw [f1]
    have h0 := key_at I f2
    obtain ⟨o', items, n', g1, g2, g3, g4⟩ := h0
    exact ⟨o', items, n', hk _ _ (Nat.ne_of_lt (Heap.lt_size g1)) (by simp) g1, g2, g3, g4⟩
  · intro h' tk hd' hk
    obtain ⟨o', es, ep, g1, g2, g3, g4, g5, g6⟩ := hd'
    have hm : (s.heap.objs.size == sysModules) = false := beq_eq_false_iff_ne.mpr (Nat.ne_of_gt I.big)
    have hlen : (storedAllH [] ys).length ≤ sizeLine := by
      refine Nat.le_trans (storedAll_len [] ys) ?_
      rw [List.length_nil]
      omega
    refine ⟨.ref s.heap.objs.size, upd H s.heap.objs.size (DctO X.prog X.w s.heap.objs.size (storedAllH [] ys) o'), I.laid (t' := tk) (fun b u e => hk b u (by simp) e) (Nat.le_refl _) ?_, rfl, q _ _ o' (I.hok.fresh (Nat.le_refl _)) (ent_dict e2 .nil)⟩
    show ObjOk X.prog X.w _ _ _ (.ext _)
    exact ⟨⟨hlen, hm, g1, es, ep, g2, g3, g4, g6⟩, ⟨o', g1⟩, fun h1 h2 ⟨a1, a2, a3, a4⟩ k => ⟨a1, a2, k _ a3, a4⟩⟩
end
section
variable {X : Cx} {R0 : Res} {h0 : ∀ H, R0.Ss H} {W : WX} {pos : Pos}
/-- dict([..]) -/
def cDictT (P : Program) (w : World) (t : TDYA) : TDY Sy := fun τ ρ q x => t τ ρ (fun τ1 ds => ∃ (d : D) (ps : List ((Int × Int) × D)), ds = [d] ∧ lstOf d (ps.map entD) ∧ (∀ x ∈ ps, flatD x.2 = true) ∧ ∀ a, sget τ1 a = none → q ((a, .dct P w (dictP ps)) :: τ1) (.ptr a)) x
theorem c_dictT {e : Expr} {p0 : Pos} {t : TDYA} (P : Program) (w : World) (hP : X.prog = P) (hw : X.w = w) (hm : X.mg "dict" = none) (hcalm : X.calm = true) (hu : X.A.units + 64 < cLine) (ha : YA X (SF X.K R0 h0) W [e] t) (hg : Gl X "dict" := by rfl) (he : starEach [e] X.env = (false, eval e X.env) :: starEach [] X.env := by rfl) (hpl : (backTo pos (starEach [] X.env)).any (·.1) = false := by rfl) :
    YC X (SF X.K R0 h0) W (.Call (.Name "dict" p0) [e] [] pos) (cDictT P w t) := by
  subst hP hw
  exact PE_imp (pe_callTy (cr_dictT hcalm hu) hg hm (by decide +kernel) ha (by decide) (by decide) he hpl) fun σ H Q ⟨τ, ρ, q, x, r, s, w, f, g⟩ => ⟨τ, ρ, _, x, r, s, w, fun τ1 ds vs H1 w1 r1 e1 s1 => by
    obtain ⟨d, ps, rfl, hd, fl, w2⟩ := w1
    obtain ⟨y, rfl, rx⟩ := r1.one
    obtain ⟨a, us, rfl, ha', ra⟩ := rep_lst rx hd
    refine ⟨a, _, us, ps, rfl, ha', ra, fl, fun l ys o n pe => ?_⟩
    have st : Step (SF X.K R0 h0) τ1 H1 ((l, .dct X.prog X.w (dictP ps)) :: τ1) (upd H1 l (DctO X.prog X.w l ys o)) := new_step n
    exact f _ _ _ _ (w2 l (sget_none s1 n)) (.ptr l) (e1.trans st) (new_ok s1 n ⟨ys, o, upd_same, Paired.mapP pe fun _ _ z => ⟨z.1, Rep.step st z.2.1, z.2.2⟩⟩), g⟩
/-! ### sorted(list of rows): a new list of the state -/
def rowOk (d : D) : Prop := d.plain = true ∧ PyData.depth d.py ≤ 8 ∧ ∃ (x : PyData) (r : List PyData), d.py = .tuple (x :: r)
def rSortD (K : PySem.W.Frag) : List V → Hp → VK → Prop := fun xs H Q => ∃ (a : Addr) (p : List Addr) (vs : List V) (ds : List D), xs = [.ref a] ∧ H a = some (.lst vs) ∧ RepAll K p H vs ds ∧ (∀ d ∈ ds, rowOk d) ∧ (∀ d ∈ ds, ∀ e ∈ ds, PySem.W.alike d.py e.py = true) ∧
  ∀ l ws es, H l = none → es.Perm ds → RepAll K p H ws es → Q (.ref l) (upd H l (.lst ws))
theorem each_row {X : Cx} {pins : List (Addr × Obj)} {σ : L2.St} {H : Hp} {s : Shared} {p : List Addr} (I : Inv X pins σ H s) : ∀ {vs : List V} {ds : List D} {us : List Value}, RepAll X.K p H vs ds → Vals vs us → (∀ d ∈ ds, rowOk d) →
    PySem.W.EachIs (fun u (b : V × D) => RelV b.1 u ∧ Rep X.K p H b.1 b.2) us (vs.zip ds) ∧ PySem.W.EachIs (fun u (b : V × D) => ∃ as, Reads s.heap u b.2.py as) us (vs.zip ds)
  | [], [], _, .nil, h, _ => by cases h; exact ⟨.nil, .nil⟩
  | v :: vs, d :: ds, _, .cons r1 r2, h, k => by
    cases h with
    | cons h1 h2 =>
      obtain ⟨q1, q2⟩ := each_row I r2 h2 fun d hd => k d (List.mem_cons_of_mem _ hd)
      obtain ⟨as, rd, _⟩ := Rep.reads I _ _ _ (k d List.mem_cons_self).1 r1 h1
      exact ⟨.cons ⟨h1, r1⟩ q1, .cons ⟨as, rd⟩ q2⟩
theorem each_out {X : Cx} {H : Hp} {p : List Addr} : ∀ {out : List Value} {bs : List (V × D)}, PySem.W.EachIs (fun u (b : V × D) => RelV b.1 u ∧ Rep X.K p H b.1 b.2) out bs → Vals (bs.map (·.1)) out ∧ RepAll X.K p H (bs.map (·.1)) (bs.map (·.2))
  | _, _, .nil => ⟨.nil, .nil⟩
  | _, _, .cons h t => by
    obtain ⟨q1, q2⟩ := each_out t
    exact ⟨.cons h.1 q1, .cons h.2 q2⟩
theorem zip_snd {α β : Type} : ∀ {l : List α} {m : List β}, l.length = m.length → (l.zip m).map Prod.snd = m
  | [], [], _ => rfl
  | a :: l, b :: m, h => by
    rw [List.zip_cons_cons, List.map_cons, zip_snd (by simpa using h)]
  | [], _ :: _, h => by cases h
  | _ :: _, [], h => by cases h
theorem cr_sortD (hu : X.A.units + 64 < cLine) : CallR X (.builtin "sorted") (rSortD X.K) := by
  intro pins s σ H xs us Q I r q
  obtain ⟨a, p, vs, ds, rfl, ha, ra, rk, al, q⟩ := q
  rw [Vals.ref1 r]
  obtain ⟨its, rv, hl, hz⟩ := I.list (SqL.of (K := X.K) ha)
  obtain ⟨e1, e2⟩ := each_row I ra rv rk
  have hsnd : (vs.zip ds).map Prod.snd = ds := zip_snd ra.length
  have mem : ∀ b ∈ vs.zip ds, b.2 ∈ ds := fun b hb => by
    rw [← hsnd]
    exact List.mem_map.mpr ⟨b, hb, rfl⟩
  refine PySem.W.sorted_data (enc := fun b : V × D => b.2.py) hl.isList e1 e2 ?_ (.inl fun d hd => ?_) ?_ (fun b hb => ?_) fun out ho eo => ?_
  · intro d hd d' hd'
    obtain ⟨b, hb, rfl⟩ := List.mem_map.mp hd
    obtain ⟨b', hb', rfl⟩ := List.mem_map.mp hd'
    exact al _ (mem b hb) _ (mem b' hb')
  · obtain ⟨b, hb, rfl⟩ := List.mem_map.mp hd
    exact (rk _ (mem b hb)).2.2
  · have := hz
    rw [List.length_zip, ra.length, Nat.min_self, ← ra.length]
    exact this
  · have := (rk _ (mem b hb)).2.1
    omega
  · obtain ⟨q1, q2⟩ := each_out eo
    have hp : ((vs.zip ds).mergeSort (PySem.W.dataLe false fun b : V × D => b.2.py)).Perm (vs.zip ds) := List.mergeSort_perm _ _
    obtain ⟨e, he⟩ := sortedAll_at s.heap its (List.toArray out)
    have hlen : s.heap.objs.size ≤ s.heap.objs.size + 1 := by omega
    refine ⟨.ref (s.heap.objs.size + 1), upd H (s.heap.objs.size + 1) (.lst (((vs.zip ds).mergeSort (PySem.W.dataLe false fun b : V × D => b.2.py)).map (·.1))), I.laid (t' := s.toks) (fun b u e => sortedAll_old e) hlen ⟨?_, out, e, q1, he⟩, rfl, q _ _ _ (I.hok.fresh hlen) ?_ q2⟩
    · have l1 := q1.length
      rw [l1, ho, List.length_zip, ra.length, Nat.min_self, ← ra.length]
      exact hz
    · have := hp.map Prod.snd
      rw [hsnd] at this
      exact this
def cSortD (t : TDYA) : TDY Sy := fun τ ρ q x => t τ ρ (fun τ1 ds => ∃ (d : D) (xs : List D), ds = [d] ∧ lstOf d xs ∧ (∀ d ∈ xs, rowOk d) ∧ (∀ d ∈ xs, ∀ e ∈ xs, PySem.W.alike d.py e.py = true) ∧ ∀ a ys, ys.Perm xs → sget τ1 a = none → q ((a, .lst ys) :: τ1) (.ptr a)) x
theorem c_sortD {e : Expr} {p0 : Pos} {t : TDYA} (hm : X.mg "sorted" = none) (hu : X.A.units + 64 < cLine) (ha : YA X (SF X.K R0 h0) W [e] t) (hg : Gl X "sorted" := by rfl) (he : starEach [e] X.env = (false, eval e X.env) :: starEach [] X.env := by rfl) (hpl : (backTo pos (starEach [] X.env)).any (·.1) = false := by rfl) :
    YC X (SF X.K R0 h0) W (.Call (.Name "sorted" p0) [e] [] pos) (cSortD t) :=
  PE_imp (pe_callB (cr_sortD hu) hg hm (by decide +kernel) ha (by decide) (by decide) he hpl) fun σ H Q ⟨τ, ρ, q, x, r, s, w, f, g⟩ => ⟨τ, ρ, _, x, r, s, w, fun τ1 ds vs H1 w1 r1 e1 s1 => by
    obtain ⟨d, xs, rfl, hd, rk, al, w2⟩ := w1
    obtain ⟨y, rfl, rx⟩ := r1.one
    obtain ⟨a, us, rfl, ha', ra⟩ := rep_lst rx hd
    refine ⟨a, _, us, xs, rfl, ha', ra, rk, al, fun l ws es n hp re => ?_⟩
    have st : Step (SF X.K R0 h0) τ1 H1 ((l, .lst es) :: τ1) (upd H1 l (.lst ws)) := new_step n
    exact f _ _ _ _ (w2 l es hp (sget_none s1 n)) (.ptr l) (e1.trans st) (new_ok s1 n ⟨ws, upd_same, RepAll.step st re⟩), g⟩
end
/-! ### [e for x in iter if c] -/
section
variable {X : Cx} {R : Res} {pos : Pos}
def vLcF (i : Nat) (w : TDI) (tc : TDT) (te : TDE) : TDE := fun ρ q => w ρ fun ds => ds.length ≤ sizeLine ∧ ∃ g : D → Option D, (∀ d ∈ ds, tc (ρ.set i (some d)) fun b => if b = true then te (ρ.set i (some d)) (fun e => g d = some e) else g d = none) ∧ q (.seq (ds.filterMap g))
def tElT (K : PySem.W.Frag) (R : Res) (tc : TDT) : TT := fun σ H Q => ∃ A, tDT K (R.add A) tc σ H Q
theorem lcF_ok {K : PySem.W.Frag} {i : Nat} {w : TDI} {tc : TDT} {te : TDE} : ∀ σ H Q, tD K R (vLcF i w tc te) σ H Q → tLc (tDIP K R w) (gName i) (tElT K R tc) (tEl K R te) [i] σ H Q := by
  rintro σ H Q ⟨ρ, q, r, o, w0, f⟩
  refine ⟨ρ, _, r, o, w0, ?_⟩
  rintro ds J H1 ⟨hz, g, hstep, hend⟩ ⟨G, Y, wk, gs, ys⟩ e1 o1 A nA
  have eA : Ext R.p H1 (upd H1 A (.lst [])) := Ext.new nA
  have rS : REnv K (R.add A).av (upd H1 A (.lst [])) σ ρ := ((r.mono e1).strong nA).mono0 (Ext.new nA)
  have nAp : A ∉ R.p := fun m => (Pot.nin (R := R) o1 nA) (List.mem_append_left _ m)
  refine lc_it wk (fun j H' => j ≤ ds.length ∧ Ext R.p H1 H' ∧ Pot R H' ∧ ∃ acc, H' A = some (.lst acc) ∧ RepAll K (R.add A).av H' acc ((ds.take j).filterMap g) ∧ REnv K (R.add A).av H' σ ρ)
    ⟨Nat.zero_le _, eA, o1.new nA, [], upd_same, by rw [List.take_zero]; exact .nil, rS⟩ (fun j H' _ ⟨_, e2, _⟩ => gs H' e2) ?_ ?_
  · rintro j x H' H'' hj ⟨_, e2, o2, acc, hA, ra, re⟩ hy
    obtain ⟨rfl, d, hd, rd⟩ := ys j H' x H'' hj e2 hy
    have oA : Pot (R.add A) H'' := Pot.add o2 nAp (by rw [hA]; exact fun z => nomatch z)
    have htk : ds.take (j + 1) = ds.take j ++ [d] := by rw [List.take_add_one, hd]; rfl
    have hl : ((ds.take j).filterMap g).length ≤ j := Nat.le_trans (List.length_filterMap_le _ _) (by rw [List.length_take]; omega)
    refine ⟨by show (((σ.set i none).set i (some x)).set i none) = σ.set i none; rw [List.set_set, List.set_set], ?_⟩
    have hset : ((wipe σ [i]).set i (some x)) = (σ.set i (some x)) := by show (σ.set i none).set i (some x) = _; rw [List.set_set]
    have rset : REnv K (R.add A).av H'' ((wipe σ [i]).set i (some x)) (ρ.set i (some d)) := by
      rw [hset]
      exact re.set (Rep.mono0 (p := (R.add A).av) (fun b u nb hb => e2 b u (fun m => nb (List.mem_append_left _ m)) hb) (rd.strong nA)) i
    refine ⟨A, ρ.set i (some d), _, rset, oA, hstep d (List.mem_of_getElem? hd), fun b H3 wb e3 o3 => ?_⟩
    cases b with
    | false =>
      rw [if_neg Bool.false_ne_true] at wb ⊢
      have h3 : H3 A = some (.lst acc) := e3 A _ nAp hA
      refine ⟨hj, fun b u nb hb => e3 b u nb (e2 b u nb hb), Pot.of_add o3, acc, h3, ?_, re.mono (R := R.add A) e3⟩
      rw [htk, List.filterMap_append]
      simp only [List.filterMap_cons, wb, List.filterMap_nil, List.append_nil]
      exact ra.mono (R := R.add A) e3
    | true =>
      rw [if_pos rfl] at wb ⊢
      refine ⟨A, ρ.set i (some d), _, rset.mono (R := R.add A) e3, o3, wb, ?_⟩
      rintro e y H4 we ry e4 o4
      have h4 : H4 A = some (.lst acc) := e4 A _ nAp (e3 A _ nAp hA)
      refine ⟨acc, h4, ?_, hj, ?_, ?_, acc ++ [y], upd_same, ?_, ?_⟩
      · have := ra.length
        omega
      · intro b u nb hb
        have nbA : b ≠ A := ne_of_none hb nA
        rw [upd_ne nbA]
        exact e4 b u nb (e3 b u nb (e2 b u nb hb))
      · refine Pot.mix o1 (fun b u nb hb => ?_) (Pot.of_add o4) (fun b m => upd_ne (fun e => nAp (e ▸ m)))
        rw [upd_ne (ne_of_none hb nA)]
        exact e4 b u nb (e3 b u nb (e2 b u nb hb))
      · rw [htk, List.filterMap_append]
        simp only [List.filterMap_cons, we, List.filterMap_nil]
        exact (((ra.mono (R := R.add A) e3).mono (R := R.add A) e4).append (.cons ry .nil)).mono0 (Ext.put Res.add_mem)
      · exact ((re.mono (R := R.add A) e3).mono (R := R.add A) e4).mono0 (Ext.put Res.add_mem)
  · rintro H' ⟨_, e2, o2, acc, hA, ra, re⟩
    rw [List.take_length] at ra
    exact f _ _ H' hend (.seq hA (Pot.nin (R := R) o1 nA) (RepAll.weak (fun b hb => Res.add_av hb) ra)) (e1.trans e2) o2
theorem d_lcF {i : Nat} {x : Str} {px : Pos} {elt iter c : Expr} {scope : Scope} {w : TDI} {tc : TDT} {te : TDE} (hc : X.calm = true) (nd : X.N.Nodup) (hi : EIP X R (.Name x px) iter w) (ok : BlkOk X.N X.env.scope scope [(x, i)])
    (hg : ∀ (s : Shared) (H : Hp) (C : Addr) (cl : List (Str × Addr)) (fp : List Addr), PG (X.blk s H scope (compEnvC scope cl C X.env) fp) (.Name x px) (gName i))
    (ht : ∀ (s : Shared) (H : Hp) (C : Addr) (cl : List (Str × Addr)) (fp : List Addr) (A : Addr), ET (X.blk s H scope (compEnvC scope cl C X.env) fp) (R.add A) c tc)
    (he : ∀ (s : Shared) (H : Hp) (C : Addr) (cl : List (Str × Addr)) (fp : List Addr) (A : Addr), EE (X.blk s H scope (compEnvC scope cl C X.env) fp) (R.add A) elt te) (hs : ∀ x, foldedSetIterable iter X.env x = pure x := by intro _; rfl) :
    EE X R (.ListComp elt [⟨.Name x px, iter, [c], 0⟩] scope pos) (vLcF i w tc te) :=
  PE_imp (pe_lc (own := [(x, i)]) (g := gName i) (tt := tElT X.K R tc) (te := tEl X.K R te) hc nd hi ok hg (fun s H C cl fp => pts_one ⟨fun pins s' σ H' Q I ⟨A, w⟩ => (ht s H C cl fp A).run pins s' σ H' Q I w⟩) (fun s H C cl fp => ⟨fun pins s' σ H' Q I ⟨A, w⟩ => (he s H C cl fp A).run pins s' σ H' Q I w⟩) hs) lcF_ok
end
end Dl

set_option Elab.async false
set_option linter.all false
set_option maxRecDepth 100000
set_option maxHeartbeats 4000000
namespace Dl
open PySem PySem.Spec PyProof.Rows L2
/-! ## None or a pair == a pair; a def that changes nothing is one of data, whatever it answers -/
def optD : Option (Int × Int) → D
  | none => .non
  | some p => pairD p
def optPy : Option (Int × Int) → PyData
  | none => .none
  | some p => pairPy p
section
variable {K : PySem.W.Frag} {R : Res}
theorem dp_pair {p : List Addr} {H : Hp} {v : V} {k : Int × Int} (r : Rep K p H v (pairD k)) : Dp K H v (pairPy k) := by
  have := rep_dpE r (by simp only [pairD, D.eqp, D.eqps, Bool.and_self])
  rw [pair_py] at this
  exact this
theorem dp_opt {p : List Addr} {H : Hp} {v : V} {o : Option (Int × Int)} (r : Rep K p H v (optD o)) : Dp K H v (optPy o) := by
  cases o with
  | none =>
    have r : Rep K p H v .non := r
    cases r
    exact .non
  | some k => exact dp_pair r
theorem shaped_opt (o : Option (Int × Int)) : SeqAt.shaped (optPy o) = true := by
  cases o with
  | none => decide
  | some k => exact shaped_pair k
theorem opt_eqv (o : Option (Int × Int)) (k : Int × Int) : PyData.eqv (optPy o) (pairPy k) = decide (o = some k) := by
  cases o with
  | none => simp [optPy, pairPy, PyData.eqv]
  | some q => rw [show optPy (some q) = pairPy q from rfl, pair_eqv]; simp
def eqOP : DOp := fun dx dy q => ∃ (o : Option (Int × Int)) (k : Int × Int), dx = optD o ∧ dy = pairD k ∧ q (.bl (decide (o = some k)))
theorem opd_eqOP : OpD K R (rEqD K) eqOP := by
  rintro x y dx dy H q Q rx ry o ⟨oo, k, rfl, rfl, w⟩ f
  refine ⟨_, _, dp_opt rx, dp_pair ry, shaped_opt oo, shaped_pair k, ?_⟩
  rw [opt_eqv]
  exact f _ _ H w (.bl _) (Ext.refl _ _) o
def nePP : DOp := fun dx dy q => ∃ (a b : Int × Int), dx = pairD a ∧ dy = pairD b ∧ q (.bl (!decide (a = b)))
theorem opd_nePP : OpD K R (rNeD K) nePP := by
  rintro x y dx dy H q Q rx ry o ⟨a, b, rfl, rfl, w⟩ f
  refine ⟨_, _, dp_pair rx, dp_pair ry, shaped_pair a, shaped_pair b, ?_⟩
  rw [pair_eqv]
  exact f _ _ H w (.bl _) (Ext.refl _ _) o
end
/-- all that is known may not change: what R knows apart is held by the heap at the start -/
def Res.whole (R : Res) (H0 : Hp) : Res where
  p := R.p ++ R.n
  n := []
  Sp := fun H => R.Sp H ∧ (∀ b ∈ R.p ++ R.n, H b ≠ Option.none) ∧ ∀ b ∈ R.n, b ∉ R.p → H b = H0 b
  Ss := fun _ => True
  nin := fun H a h _ n m => by
    rw [List.append_nil] at m
    exact h.2.1 a m n
  dep := fun H H' e h => ⟨R.dep H H' (fun a m => e a (List.mem_append_left _ m)) h.1, fun b m => by rw [e b m]; exact h.2.1 b m, fun b m n => by rw [e b (List.mem_append_right _ m)]; exact h.2.2 b m n⟩
  mono := fun _ _ _ _ => trivial
theorem pureYw {P : Program} {w : World} {K : PySem.W.Frag} {mg : Str → Option Value} {base : Heap} {k : Nat} {f : Addr} {fd : FuncData} {ps : List Str} {Fd : DCallY Sy} {Fp : DCall} {R : Res} (G : ∀ (R0 : Res) (h0 : ∀ H, R0.Ss H), FnX P w K mg base k f fd ps (spY K (symF K R0 h0) Fd))
    (hl : ∀ ds q, Fp ds q → ds.length = ps.length) (hF : ∀ ds q, Fp ds q → Fd ds [] (fun _ d => q d) (fun _ _ => False)) : FnG P w K mg base k f fd ps (spD K R Fp) := by
  refine ⟨fun vs H Q E ⟨ds, q, r, _, w, _⟩ => by rw [r.length]; exact hl ds q w, fun A outer s H args us vs Q E hr hg e0 hb rv ⟨ds, q, ra, o, w, fi⟩ => ?_⟩
  have oS : (symF K (R.whole H) fun _ => trivial).S [] H := ⟨⟨o.1, fun b m n => Pot.nin (R := R) o n m, fun b _ _ => rfl⟩, fun a so g => by cases g⟩
  refine codeAny_mono ((G (R.whole H) fun _ => trivial).run A outer s H args us vs Q (fun _ _ _ => False) hr hg e0 hb rv ⟨ds, [], _, _, RepAll.weak (fun b m => ?_) ra, oS, hF ds q w, ?_, fun _ _ _ z _ _ => z.elim⟩) fun r s' hq => ?_
  · have m : b ∈ (R.p ++ R.n) ++ ([] ++ []) := m
    rw [List.append_nil, List.append_nil] at m
    exact m
  · rintro τ' d v H' w' r' e' s'
    have ex : Ext R.p H H' := fun b u nb hb => by
      by_cases hn : b ∈ R.n
      · rw [s'.1.2.2 b hn nb]
        exact hb
      · exact e'.keep b u (fun m => by
          have m : b ∈ (R.p ++ R.n) ++ ([] ++ []) := m
          rw [List.append_nil, List.append_nil] at m
          rcases List.mem_append.mp m with m | m
          · exact nb m
          · exact hn m) hb
    exact fi d v H' w' (Rep.weak (fun b m => List.mem_append_left _ m) r') ex ⟨s'.1.1, R.mono H H' ex o.2⟩
  · cases r with
    | error e =>
      obtain ⟨a, B, H', cls, d, ea, fl, hok, ub, na, os, ag, he⟩ := hq
      exact he.elim
    | ok fl => cases fl <;> exact hq
/-! ### comprehensions, read by a map -/
theorem lc_map {i : Nat} {te : TDE} {ρ : DE} {Q : D → Prop} {ds : List D} {f : D → D} (hz : ds.length ≤ sizeLine) (hel : ∀ d ∈ ds, te (ρ.set i (some d)) fun e => e = f d) (h : Q (.seq (ds.map f))) :
    ds.length ≤ sizeLine ∧ ∃ Pj : Nat → D → Prop, (∀ j d, ds[j]? = some d → te (ρ.set i (some d)) (Pj j)) ∧ ∀ es : List D, es.length = ds.length → (∀ (j : Nat) (e : D), es[j]? = some e → Pj j e) → Q (.seq es) := by
  refine ⟨hz, fun j e => ∀ d, ds[j]? = some d → e = f d, fun j d hj => ?_, fun es hl hP => ?_⟩
  · have e : (fun e => ∀ d', ds[j]? = some d' → e = f d') = fun e => e = f d := by
      funext e
      exact propext ⟨fun h => h d hj, fun h d' hd' => by rw [hj] at hd'; cases hd'; exact h⟩
    show te (ρ.set i (some d)) (fun e => ∀ d', ds[j]? = some d' → e = f d')
    rw [e]
    exact hel d (List.mem_of_getElem? hj)
  · have e : es = ds.map f := by
      apply List.ext_getElem?
      intro j
      rw [List.getElem?_map]
      cases hej : es[j]? with
      | none =>
        have : es.length ≤ j := List.getElem?_eq_none_iff.mp hej
        rw [List.getElem?_eq_none (by omega)]
        rfl
      | some e =>
        have hj := (List.getElem?_eq_some_iff.mp hej).1
        have h1 : ds[j]? = some (ds[j]'(by omega)) := List.getElem?_eq_getElem (by omega)
        rw [h1, hP j e hej _ h1]
        rfl
    rw [e]
    exact h
theorem lcZ_map {i k : Nat} {te : TDE} {ρ : DE} {Q : D → Prop} {xs ys : List D} {f : D → D → D} (hz : min xs.length ys.length ≤ sizeLine) (hel : ∀ p ∈ xs.zip ys, te ((ρ.set i (some p.1)).set k (some p.2)) fun e => e = f p.1 p.2) (h : Q (.seq ((xs.zip ys).map fun p => f p.1 p.2))) :
    min xs.length ys.length ≤ sizeLine ∧ ∃ Pj : Nat → D → Prop, (∀ j d e, xs[j]? = some d → ys[j]? = some e → te ((ρ.set i (some d)).set k (some e)) (Pj j)) ∧ ∀ es : List D, es.length = min xs.length ys.length → (∀ (j : Nat) (e : D), es[j]? = some e → Pj j e) → Q (.seq es) := by
  refine ⟨hz, fun j e => ∀ a b, xs[j]? = some a → ys[j]? = some b → e = f a b, fun j a b ha hb => ?_, fun es hl hP => ?_⟩
  · have e : (fun e => ∀ a' b', xs[j]? = some a' → ys[j]? = some b' → e = f a' b') = fun e => e = f a b := by
      funext e
      exact propext ⟨fun h => h a b ha hb, fun h a' b' ha' hb' => by rw [ha] at ha'; rw [hb] at hb'; cases ha'; cases hb'; exact h⟩
    show te ((ρ.set i (some a)).set k (some b)) (fun e => ∀ a' b', xs[j]? = some a' → ys[j]? = some b' → e = f a' b')
    rw [e]
    refine hel (a, b) ?_
    have : (xs.zip ys)[j]? = some (a, b) := List.getElem?_zip_eq_some.mpr ⟨ha, hb⟩
    exact List.mem_of_getElem? this
  · have e : es = (xs.zip ys).map fun p => f p.1 p.2 := by
      apply List.ext_getElem?
      intro j
      rw [List.getElem?_map]
      cases hej : es[j]? with
      | none =>
        have : es.length ≤ j := List.getElem?_eq_none_iff.mp hej
        rw [List.getElem?_eq_none (by rw [List.length_zip]; omega)]
        rfl
      | some e =>
        have hj := (List.getElem?_eq_some_iff.mp hej).1
        have h1 : xs[j]? = some (xs[j]'(by omega)) := List.getElem?_eq_getElem (by omega)
        have h2 : ys[j]? = some (ys[j]'(by omega)) := List.getElem?_eq_getElem (by omega)
        rw [show (xs.zip ys)[j]? = some (xs[j]'(by omega), ys[j]'(by omega)) from List.getElem?_zip_eq_some.mpr ⟨h1, h2⟩, hP j e hej _ _ h1 h2]
        rfl
    rw [e]
    exact h
theorem all_seq {q : D → Prop} {α : Type} {l : List α} {g : α → Bool} (h : q (.bl (l.all g))) : allC [.seq (l.map fun a => D.bl (g a))] q := by
  refine ⟨_, l.map g, rfl, .inr (by rw [List.map_map]; rfl), ?_⟩
  rw [List.all_map]
  exact h
theorem lc_all {i : Nat} {te : TDE} {ρ : DE} {q : D → Prop} {ds : List D} {g : D → Bool} (hz : ds.length ≤ sizeLine) (hel : ∀ d ∈ ds, te (ρ.set i (some d)) fun e => e = .bl (g d)) (h : q (.bl (ds.all g))) :
    ds.length ≤ sizeLine ∧ ∃ Pj : Nat → D → Prop, (∀ j d, ds[j]? = some d → te (ρ.set i (some d)) (Pj j)) ∧ ∀ es : List D, es.length = ds.length → (∀ (j : Nat) (e : D), es[j]? = some e → Pj j e) → allC [.seq es] q :=
  lc_map (Q := fun d => allC [d] q) hz hel (all_seq h)
theorem lcZ_all {i k : Nat} {te : TDE} {ρ : DE} {q : D → Prop} {xs ys : List D} {g : D → D → Bool} (hz : min xs.length ys.length ≤ sizeLine) (hel : ∀ p ∈ xs.zip ys, te ((ρ.set i (some p.1)).set k (some p.2)) fun e => e = .bl (g p.1 p.2)) (h : q (.bl ((xs.zip ys).all fun p => g p.1 p.2))) :
    min xs.length ys.length ≤ sizeLine ∧ ∃ Pj : Nat → D → Prop, (∀ j d e, xs[j]? = some d → ys[j]? = some e → te ((ρ.set i (some d)).set k (some e)) (Pj j)) ∧ ∀ es : List D, es.length = min xs.length ys.length → (∀ (j : Nat) (e : D), es[j]? = some e → Pj j e) → allC [.seq es] q :=
  lcZ_map (f := fun x y => .bl (g x y)) (Q := fun d => allC [d] q) hz hel (all_seq (g := fun p : D × D => g p.1 p.2) h)
end Dl

set_option Elab.async false
set_option linter.all false
set_option maxRecDepth 100000
set_option maxHeartbeats 4000000
namespace PySem
open AutoSeq1 (wpAny_loadPart')
set_option maxHeartbeats 4000000 in
/-- enumerate of a tuple -/
theorem enumT_new (l : Addr) (items : Array Value) (n : Nat) (dct : Option Addr) (sl : Array (Option Value)) :
    Meets (Builtin.«enumerate.__new__» ⟨[.type "enumerate", .ref l], []⟩) (fun _ R s => s.heap.get? l = some { cls := .type "tuple", dict := dct, data := .seq items n, slots := sl } ∧
      R (.ok (.ret (.ref (s.heap.push { cls := .type "tuple_iterator", data := .fields #[.ref l, .int 0 0] }).objs.size)))
        { s with heap := (s.heap.push { cls := .type "tuple_iterator", data := .fields #[.ref l, .int 0 0] }).push { cls := .type "enumerate", data := .fields #[.none, .bool false, .ref s.heap.objs.size, rawInt 0, .none, .none] } }) :=
  .of_wp fun prog w A R s h => by
    obtain ⟨hp, g, d, tk, os⟩ := s
    obtain ⟨hl, h⟩ := h
    have hL : hp.IsTuple l items := ⟨_, hl, rfl, _, rfl⟩
    have hsub := sub_enumerate
    wp_walk using wpAny_loadPart' hl
    refine wpAny_stack_any fun st => wpAny_pure ?_
    split
    · rename_i c _ _ _ _ _
      cases (c == Value.type "enumerate")
      · wp_walk using wpAny_loadPart' hl, wpAny_pyIter_tuple hL
        exact ⟨_, rfl, h⟩
      · wp_walk using wpAny_loadPart' hl, wpAny_pyIter_tuple hL
        exact ⟨_, rfl, h⟩
    · wp_walk using wpAny_loadPart' hl, wpAny_pyIter_tuple hL
      exact ⟨_, rfl, h⟩
theorem enumT_call {prog : Program} {w : World} {A : Around} {E : Value → Shared → Prop} {s : Shared} {l : Addr} {items : Array Value} {Q : Value → Shared → Prop} (hL : s.heap.IsTuple l items)
    (h : ∀ h', IsEnum h' (s.heap.objs.size + 1) s.heap.objs.size 0 .none → h'.IsTupleIter s.heap.objs.size l 0 → (∀ b o, s.heap.get? b = some o → h'.get? b = some o) → Q (.ref (s.heap.objs.size + 1)) { s with heap := h' }) :
    wpAny (model prog w) A (call (.type "enumerate") [.ref l]) Q E s := by
  obtain ⟨⟨c, dct, dt, sl⟩, hl, hc, n, hd⟩ := hL
  replace hc : c = .type "tuple" := hc
  replace hd : dt = .seq items n := hd
  subst hc hd
  refine callType_new F.called_enumerate (by decide) (F.typeCall_enumerate_1 _) (F.newCall_enumerate_1 _) (fun obj => F.args_object_init_2 obj _) F.entry_enumerate_new (enumT_new l items n dct sl) ⟨hl, ?_⟩
  have hz : (s.heap.push { cls := .type "tuple_iterator", data := .fields #[.ref l, .int 0 0] }).objs.size = s.heap.objs.size + 1 := Heap.size_push ..
  show _ ∧ _
  rw [hz]
  have he : IsEnum ((s.heap.push { cls := .type "tuple_iterator", data := .fields #[.ref l, .int 0 0] }).push { cls := .type "enumerate", data := .fields #[.none, .bool false, .ref s.heap.objs.size, rawInt 0, .none, .none] }) (s.heap.objs.size + 1) s.heap.objs.size 0 .none := by
    have q := Heap.get?_push_size (s.heap.push { cls := .type "tuple_iterator", data := .fields #[.ref l, .int 0 0] }) (o := { cls := .type "enumerate", data := .fields #[.none, .bool false, .ref s.heap.objs.size, rawInt 0, .none, .none] }) rfl
    rw [hz] at q
    exact q
  exact ⟨⟨_, he, rfl⟩, h _ he ⟨_, Heap.get?_push_of_some _ (Heap.get?_push_size _ rfl), rfl, rfl⟩ fun b o x => Heap.get?_push_of_some _ (Heap.get?_push_of_some _ x)⟩
end PySem
namespace Dl
open PySem PySem.Spec PyProof.Rows L2
/-! ## for i, x in enumerate(a tuple) -/
def Itq (K : PySem.W.Frag) (a : Addr) (xs : List V) : It :=
  ⟨fun i H => SqT K H a xs ∧ i < xs.length, fun i H v H' => ∃ T x, v = .ref T ∧ H T = none ∧ H' = upd H T (.tup [.int ((i : Nat) : Int), x]) ∧ xs[i]? = some x, fun i H => SqT K H a xs ∧ xs.length ≤ i⟩
theorem turn_enumQ {P : Program} {w : World} {K : PySem.W.Frag} {elts : List Expr} {kk : Nat} {tpos : Pos} (a : Addr) (xs : List V) (items : Array Value) (hsz : items.size = xs.length) (e it : Addr) :
    Turn P w K (.Tuple elts kk tpos) (Itq K a xs) [e, it] e (fun i h => (∃ old, IsEnum h e it ((i : Nat) : Int) old) ∧ h.IsTupleIter it a i ∧ e ≠ it ∧ a ≠ it ∧ e ≠ a ∧ i ≤ xs.length) := by
  refine ⟨by simp, fun i h st b hb => ?_, fun i h h' st k => ?_, ?_, ?_, fun A i s Q E st h => let ⟨⟨_, he⟩, _⟩ := st; wpAny_pyIter_enum he h⟩
  · obtain ⟨⟨old, he⟩, ⟨o, ho, hc, hd⟩, _⟩ := st
    have e' : b = e ∨ b = it := by simpa using hb
    rcases e' with z | z
    · rw [z]; exact ⟨_, he, fun v q => nomatch q⟩
    · rw [z]; exact ⟨o, ho, fun v q => by rw [hd] at q; cases q⟩
  · obtain ⟨⟨old, he⟩, ⟨o, ho, r⟩, hr⟩ := st
    exact ⟨⟨old, k e (by simp) _ he⟩, ⟨o, k it (by simp) o ho, r⟩, hr⟩
  · intro X hP hw hK hc i pins s σ H E I hf st hg
    subst hP hw hK
    obtain ⟨⟨old, he⟩, hit, hne, hai, hea, hle⟩ := st
    obtain ⟨hq, hi⟩ := hg
    obtain ⟨its, rv, p, _⟩ := I.tuple hq
    have hel : e < s.heap.objs.size := Heap.lt_size he
    have hil : it < s.heap.objs.size := by obtain ⟨_, q, _⟩ := hit; exact Heap.lt_size q
    have hl := rv.length
    have Dr := Draws.tuple (prog := X.prog) (w := X.w) (A := X.A.in1) (I.ok.hd hc) it a hai its.toArray
    refine wpAny_pyNext_enum_itemC Dr he ⟨hit, p⟩ (by rw [List.size_toArray]; omega) hne (by simp [hne, hea]) fun u h' tk hP' ho hit' hT hz hk => ?_
    have hu : its[i]? = some u := by simpa using hP'
    obtain ⟨x, hx, rx⟩ := Vals.back rv hu
    refine ⟨_, rfl, wpAny_letOwnedTupleGo_enum (s := { s with heap := h', toks := tk + 1 }) ho fun h'' he' sb => ?_⟩
    have hT2 : h''.get? s.heap.objs.size = some { cls := .type "tuple", data := .seq #[.int ((i : Nat) : Int) tk, u] } := (sb.2 _ (Nat.ne_of_gt hel)).trans hT
    have hn : H s.heap.objs.size = none := I.hok.fresh (Nat.le_refl _)
    have new : ObjOk X.prog X.w (upd H s.heap.objs.size (.tup [.int ((i : Nat) : Int), x])) h'' s.heap.objs.size (.tup [.int ((i : Nat) : Int), x]) :=
      ⟨by show 2 ≤ sizeLine; decide, [.int ((i : Nat) : Int) tk, u], .cons ⟨_, rfl⟩ (.cons rx .nil), ⟨_, hT2, rfl, _, rfl⟩⟩
    have I1 : Inv X pins σ (upd H s.heap.objs.size (.tup [.int ((i : Nat) : Int), x])) { s with heap := h'', toks := tk + 1 } :=
      I.turnedNew (ch := [e, it]) (fun b ob hb q => (sb.2 b (fun z => hb (by simp [z]))).trans (hk b ob (fun z => hb (by simp [z])) (fun z => hb (by simp [z])) q)) hf (Nat.le_refl _) new
    refine ⟨.ref s.heap.objs.size, _, I1, rfl, ⟨_, x, rfl, hn, rfl, hx⟩, ⟨⟨u, ?_⟩, ?_, hne, hai, hea, by omega⟩, fun b hb => ?_⟩
    · have e1 : ((i + 1 : Nat) : Int) = ((i : Nat) : Int) + 1 := by omega
      rw [e1]; exact he'
    · obtain ⟨o, q1, q2⟩ := hit'.1
      exact ⟨o, (sb.2 it (Ne.symm hne)).trans q1, q2⟩
    · have hb' : b < s.heap.objs.size := by
        have e' : b = e ∨ b = it := by simpa using hb
        rcases e' with z | z
        · rw [z]; exact hel
        · rw [z]; exact hil
      rw [upd_ne (Nat.ne_of_lt hb')]
      exact (hf b hb).1
  · intro X hP hw hK hc i pins s σ H E I hf st hg
    subst hP hw hK
    obtain ⟨⟨old, he⟩, hit, hne, hai, hea, hle⟩ := st
    obtain ⟨hq, hge⟩ := hg
    obtain ⟨its, rv, p, _⟩ := I.tuple hq
    obtain ⟨f0, f1, f2, f3, f4, f5⟩ := hf it (by simp)
    have hl := rv.length
    have hi : i = its.toArray.size := by rw [List.size_toArray]; omega
    have Dr := Draws.tuple (prog := X.prog) (w := X.w) (A := X.A.in1) (I.ok.hd hc) it a hai its.toArray
    rw [hi] at hit he
    exact wpAny_pyNext_enum_endD Dr he ⟨hit, p⟩ fun h' eb => ⟨rfl, I.turned (t' := s.toks) (fun b o hb q => eb b o hb q) f0 f1 f3 f4 f5⟩
section
variable {X : Cx} {R : Res} {pos : Pos}
def iEnumQ (K : PySem.W.Frag) (te : TE) : TI := fun σ H W => te σ H fun v H1 => ∃ a xs, [v] = [V.ref a] ∧ SqT K H1 a xs ∧ W (Itq K a xs) H1
theorem sq_lt {pins : List (Addr × Obj)} {σ : L2.St} {H : Hp} {s : Shared} {a : Addr} {xs : List V} (I : Inv X pins σ H s) (h : SqT X.K H a xs) : a < s.heap.objs.size := by
  obtain ⟨_, _, ⟨o, ho, _⟩, _⟩ := I.tuple h
  exact Heap.lt_size ho
theorem pi_enumQ {e : Expr} {te : TE} {p tpos : Pos} {elts : List Expr} {kk : Nat} (hm : X.mg "enumerate" = none) (ha : PE X e te) (hg : Gl X "enumerate" := by rfl) (hs : starEach [e] X.env = [(false, eval e X.env)] := by rfl) :
    PI X (.Tuple elts kk tpos) (.Call (.Name "enumerate" p) [e] [] pos) (iEnumQ X.K te) := by
  refine ⟨fun pins s σ H W I h => ?_⟩
  refine Call_ (ld_blt I hg hm boot_enumerate (PyProof.Rows.callWith_type1 (thn ((pa_cons ha pa_nil hs).run pos pins s σ H (fun vs H1 => ∃ a xs, vs = [.ref a] ∧ SqT X.K H1 a xs ∧ W (Itq X.K a xs) H1) I ?_) fun us s1 ⟨vs, H1, I1, r1, q1⟩ => ?_) hs rfl))
  · exact h
  obtain ⟨a, xs, ex, hq, q⟩ := q1
  subst ex
  rw [Vals.ref1 r1]
  obtain ⟨its, rv, pt, _⟩ := I1.tuple hq
  have hal := sq_lt I1 hq
  refine enumT_call pt fun h' he hit hk => ?_
  refine wpAny_pyIter_enum he ?_
  have I2 : Inv X pins σ H1 { s1 with heap := h' } := I1.kept (t' := s1.toks) hk
  refine ⟨s1.heap.objs.size + 1, [s1.heap.objs.size + 1, s1.heap.objs.size], _, _, H1, rfl, I2, turn_enumQ a xs its.toArray (by rw [List.size_toArray]; exact rv.length.symm) (s1.heap.objs.size + 1) s1.heap.objs.size, ⟨⟨.none, he⟩, hit, Nat.succ_ne_self _, Nat.ne_of_lt hal, Nat.ne_of_gt (Nat.lt_succ_of_lt hal), Nat.zero_le _⟩, fun b hb => ?_, q⟩
  have e' : b = s1.heap.objs.size + 1 ∨ b = s1.heap.objs.size := by simpa using hb
  have hle : s1.heap.objs.size ≤ b := by
    rcases e' with z | z
    · rw [z]; exact Nat.le_add_right _ _
    · rw [z]; exact Nat.le_refl _
  exact I1.fpOk hle (I1.hok.fresh hle)
theorem walk_enumQ {K : PySem.W.Frag} {a : Addr} {xs : List V} : L2.Walk (Itq K a xs) xs.length (fun H => SqT K H a xs) (fun i H v H' => ∃ T x, v = .ref T ∧ H T = none ∧ H' = upd H T (.tup [.int ((i : Nat) : Int), x]) ∧ xs[i]? = some x) :=
  ⟨fun _ _ hi q => ⟨q, hi⟩, fun _ q => ⟨q, Nat.le_refl _⟩, fun _ _ _ _ _ _ y => y⟩
end
section
variable {X : Cx} {R0 : Res} {h0 : ∀ H, R0.Ss H} {W : WX} {pos : Pos} {F : Fam Sy}
def yForQ (is : List Nat) (t : Sy → TDE) (tb : TDSS Sy) : TDSS Sy := fun e τ ρ => t τ ρ fun d => ∃ ds : List D, d = .tup ds ∧ ∃ Iv : Nat → Sy → DE → Prop, Iv 0 τ ρ ∧
  (∀ (j : Nat) (d' : D) τ' ρ', ds[j]? = some d' → Iv j τ' ρ' → tb ⟨Iv (j + 1), e.rt, e.xc⟩ τ' (setAll is [.int (j : Nat), d'] ρ')) ∧ ∀ τ' ρ', Iv ds.length τ' ρ' → e.nx τ' ρ'
theorem y_forEnumQ {is : List Nat} {es : List Expr} {kk : Nat} {tp p cpos : Pos} {le : Expr} {body : List Stmt} {t : Sy → TDE} {tb : TDSS Sy} (hm : X.mg "enumerate" = none) (hp : PassesOwn (model X.prog X.w) X.A X.env X.xe) (hc : X.calm = true) (hi : ∀ τ, EE X (F.at τ) le (t τ)) (hg : PGs X es (gNames is)) (hb : YSs X F W body tb) (h2 : is.length = 2 := by rfl)
    (hgl : Gl X "enumerate" := by rfl) (hst1 : starEach [le] X.env = [(false, eval le X.env)] := by rfl)
    (hn : (assignEach es X.env).length = is.length := by rfl) (hst : (assignEach es X.env).findIdx? (·.1) = none := by rfl)
    (hs : ∀ x, foldedSetIterable (.Call (.Name "enumerate" p) [le] [] cpos) X.env x = pure x := by intro _; rfl) : YS X F W (.For (.Tuple es kk tp) (.Call (.Name "enumerate" p) [le] [] cpos) body [] pos) (yForQ is t tb) :=
  PS_imp (ps_for hp hc (pi_enumQ hm (y_all hi) hgl hst1) (pg_tup hc hg hn hst) hb hs) fun E σ H ⟨τ, ρ, en, r, s, w, f⟩ => by
    refine ⟨τ, ρ, _, r, s, w, ?_⟩
    rintro d v H1 ⟨ds, rfl, Iv, h0, hstep, hend⟩ r1 e1 s1
    have e1 : Step F τ H τ H1 := .ext e1
    cases r1 with
    | @tup a xs _ h ra =>
      have hlen : xs.length = ds.length := ra.length
      refine ⟨a, xs, rfl, h.sq, ?_⟩
      refine for_it (walk_enumQ (K := X.K) (a := a) (xs := xs)) (fun j σ' H' => j ≤ xs.length ∧ ∃ τ' ρ', Step F τ H1 τ' H' ∧ F.S τ' H' ∧ REnv X.K (F.av τ') H' σ' ρ' ∧ Iv j τ' ρ') ⟨Nat.zero_le _, τ, ρ, .refl, s1, r.step e1, h0⟩ (fun j σ' H' _ ⟨_, τ', ρ', e2, _⟩ => (SqTp.mono e2.keep' h).sq) ?_ ?_
      · rintro j x σ' H' H'' hj ⟨_, τ', ρ', e2, s2, r2, iv⟩ ⟨T, z2, rfl, hT, rfl, k2⟩
        obtain ⟨d', hd', rd⟩ := (ra.steps e2).get' k2
        have o2 : Pot (F.at τ') H' := s2
        have st : Step F τ' H' τ' (upd H' T (.tup [.int (j : Nat), z2])) := .ext (Ext.new hT)
        refine ⟨T, _, rfl, .of upd_same, by rw [h2]; rfl, ?_⟩
        refine gNames_ok is _ [.int (j : Nat), d'] σ' ρ' _ (.cons (.int _) (.cons (Rep.step st rd) .nil)) (by rw [h2]; rfl) (r2.step st) fun σ2 rr => ?_
        refine ⟨τ', _, _, rr, o2.new hT, hstep j d' τ' ρ' hd' iv, ⟨fun τ3 ρ3 σ3 H3 w3 r3 e3 s3 => ?_, fun τ3 d3 v3 H3 w3 r3 e3 s3 => f.rt τ3 d3 v3 H3 w3 r3 (((e1.trans e2).trans st).trans e3) s3, fun C τ3 ρ3 σ3 H3 w3 r3 e3 s3 => f.xc C τ3 ρ3 σ3 H3 w3 r3 (((e1.trans e2).trans st).trans e3) s3⟩⟩
        exact ⟨hj, τ3, ρ3, (e2.trans st).trans e3, s3, r3, w3⟩
      · rintro σ' H' ⟨_, τ', ρ', e2, s2, r2, iv⟩
        rw [hlen] at iv
        exact f.nx τ' ρ' σ' H' (hend τ' ρ' iv) r2 (e1.trans e2) s2
end
end Dl

set_option Elab.async false
set_option linter.all false
set_option maxRecDepth 100000
set_option maxHeartbeats 4000000
namespace Dl
open PySem PySem.Spec PyProof.Rows L2
section
variable {X : Cx} {R : Res} {pos : Pos}
/-- y = [elt for x in iter if c] -/
theorem s_setLcF {i j : Nat} {x y : Str} {px py spos : Pos} {elt iter c : Expr} {scope : Scope} {w : TDI} {tc : TDT} {te : TDE} (hc : X.calm = true) (nd : X.N.Nodup) (hi : EIP X R (.Name x px) iter w) (ok : BlkOk X.N X.env.scope scope [(x, i)])
    (hg : ∀ (s : Shared) (H : Hp) (C : Addr) (cl : List (Str × Addr)) (fp : List Addr), PG (X.blk s H scope (compEnvC scope cl C X.env) fp) (.Name x px) (gName i))
    (ht : ∀ (s : Shared) (H : Hp) (C : Addr) (cl : List (Str × Addr)) (fp : List Addr) (A : Addr), ET (X.blk s H scope (compEnvC scope cl C X.env) fp) (R.add A) c tc)
    (he : ∀ (s : Shared) (H : Hp) (C : Addr) (cl : List (Str × Addr)) (fp : List Addr) (A : Addr), EE (X.blk s H scope (compEnvC scope cl C X.env) fp) (R.add A) elt te) (hs : ∀ x, foldedSetIterable iter X.env x = pure x := by intro _; rfl)
    (hy : X.N[j]? = some y := by rfl) (hyl : X.env.scope.names.lookup y = some .local := by rfl) (hk : X.env.scope.kind = .function := by rfl) (hl : (py.line == pos.line) = true := by rfl) (ha : (scope.names.any fun (n, k) => n == y && (k == .local || k == .cell)) = false := by decide +kernel) :
    ES X R (.Assign [.Name y py] (.ListComp elt [⟨.Name x px, iter, [c], 0⟩] scope pos) spos) (sSet j (vLcF i w tc te)) :=
  PS_imp (ps_setLc (own := [(x, i)]) (g := gName i) (tt := tElT X.K R tc) (te := tEl X.K R te) hc nd hy hyl (sw_true hk hyl hl ha) hi ok hg (fun s H C cl fp => pts_one ⟨fun pins s' σ H' Q I ⟨A, w⟩ => (ht s H C cl fp A).run pins s' σ H' Q I w⟩) (fun s H C cl fp => ⟨fun pins s' σ H' Q I ⟨A, w⟩ => (he s H C cl fp A).run pins s' σ H' Q I w⟩) hs) fun E σ H ⟨ρ, en, r, o, w, f⟩ =>
    lcF_ok σ H _ ⟨ρ, _, r, o, w, fun d v H1 w1 r1 e1 o1 => f.nx _ _ H1 w1 ((r.mono e1).set r1 j) e1 o1⟩
end
theorem vLc_tup {i k : Nat} {te : TDE} {ρ : DE} {q : D → Prop} {ds : List D} {f : D → D} (hk : ρ[k]? = some (some (.tup ds))) (hz : ds.length ≤ sizeLine) (hel : ∀ d ∈ ds, te (ρ.set i (some d)) fun e => e = f d) (h : q (.seq (ds.map f))) : vLc i (iTupD (vVar k)) te ρ q := ⟨_, hk, ds, rfl, lc_map (Q := q) hz hel h⟩
theorem vLc_lst {i k : Nat} {te : TDE} {ρ : DE} {q : D → Prop} {d : D} {ds : List D} {f : D → D} (hk : ρ[k]? = some (some d)) (hd : lstOf d ds) (hz : ds.length ≤ sizeLine) (hel : ∀ d ∈ ds, te (ρ.set i (some d)) fun e => e = f d) (h : q (.seq (ds.map f))) : vLc i (iLst (vVar k)) te ρ q := ⟨_, hk, ds, hd, lc_map (Q := q) hz hel h⟩
theorem vLcF_tup {i k : Nat} {tc : TDT} {te : TDE} {ρ : DE} {q : D → Prop} {ds : List D} (g : D → Option D) (hk : ρ[k]? = some (some (.tup ds))) (hz : ds.length ≤ sizeLine) (hel : ∀ d ∈ ds, tc (ρ.set i (some d)) fun b => if b = true then te (ρ.set i (some d)) (fun e => g d = some e) else g d = none) (h : q (.seq (ds.filterMap g))) : vLcF i (iTupD (vVar k)) tc te ρ q := ⟨_, hk, ds, rfl, hz, g, hel, h⟩
theorem vLcF_dct {P : Program} {w : World} {τ : Sy} {a : Addr} {kvs : List ((Int × Int) × D)} {i k : Nat} {tc : TDT} {te : TDE} {ρ : DE} {q : D → Prop} (g : D → Option D) (hk : ρ[k]? = some (some (.ptr a))) (hs : sget τ a = some (.dct P w kvs)) (hz : kvs.length ≤ sizeLine) (hel : ∀ d ∈ kvs.map (fun kv => pairD kv.1), tc (ρ.set i (some d)) fun b => if b = true then te (ρ.set i (some d)) (fun e => g d = some e) else g d = none) (h : q (.seq ((kvs.map fun kv => pairD kv.1).filterMap g))) : vLcF i (iDct P w τ (vVar k)) tc te ρ q := ⟨_, hk, a, kvs, rfl, hs, by rw [List.length_map]; exact hz, g, hel, h⟩
end Dl

set_option Elab.async false
set_option linter.all false
set_option maxRecDepth 100000
set_option maxHeartbeats 4000000
namespace Dl
open PySem PySem.Spec PyProof.Rows L2
section
variable {X : Cx} {R : Res} {pos : Pos}
/-- a or b, where a is None or a pair -/
def vOrO (ta tb : TDE) : TDE := fun ρ q => ta ρ fun d => ∃ o : Option (Int × Int), d = optD o ∧ match o with | none => tb ρ q | some p => q (pairD p)
theorem d_orO {a b : Expr} {rest : List Expr} {ta tb : TDE} (ha : EE X R a ta) (hb : EE X R (.BoolOp .Or (b :: rest) pos) tb) : EE X R (.BoolOp .Or (a :: b :: rest) pos) (vOrO ta tb) := PE_imp (pe_orT ha hb) fun σ H Q ⟨ρ, q, hr, ho, w, f⟩ => by
  refine ⟨ρ, _, hr, ho, w, ?_⟩
  rintro d v H1 ⟨o, rfl, w1⟩ r e o1
  cases o with
  | none =>
    have r : Rep X.K R.av H1 v .non := r
    cases r
    exact ⟨false, rfl, iteF ⟨ρ, q, hr.mono e, o1, w1, f.step e⟩⟩
  | some p =>
    obtain ⟨a, rfl, hs⟩ := pair_sq r
    exact ⟨true, .inr (.inl ⟨_, hs, rfl⟩), iteT (f _ _ H1 w1 r e o1)⟩
end
/-- any([.. for x in ..]), none of them so -/
theorem lc_anyF {i : Nat} {te : TDE} {ρ : DE} {q : D → Prop} {ds : List D} (hz : ds.length ≤ sizeLine) (hel : ∀ d ∈ ds, te (ρ.set i (some d)) fun e => e = .bl false) (h : q (.bl false)) :
    ds.length ≤ sizeLine ∧ ∃ Pj : Nat → D → Prop, (∀ j d, ds[j]? = some d → te (ρ.set i (some d)) (Pj j)) ∧ ∀ es : List D, es.length = ds.length → (∀ (j : Nat) (e : D), es[j]? = some e → Pj j e) → anyC [.seq es] q :=
  lc_map (Q := fun d => anyC [d] q) (f := fun _ => .bl false) hz hel ⟨_, ds.map fun _ => false, rfl, .inr (by rw [List.map_map]; rfl), by
    rw [show (ds.map fun _ => false).any id = false from by induction ds with | nil => rfl | cons d ds ih => simp]
    exact h⟩
end Dl

set_option Elab.async false
set_option linter.all false
set_option maxRecDepth 100000
set_option maxHeartbeats 4000000
namespace L2
open PySem PySem.Spec PyProof.Rows
/-- (x,) * 1: the tuple itself -/
theorem tup_mul1 (l : Addr) (items : Array Value) (n : Nat) (sl : Array (Option Value)) (dd : Option Addr) (x : Int) (u : Tok) (c0 : (decide (x < -(2 ^ 63)) || decide (x ≥ 2 ^ 63)) = false) (c1 : (items.isEmpty || x == 1) = true) :
    Meets (Builtin.«tuple.__mul__» ⟨[.ref l, .int x u], []⟩) (fun _ R s => s.heap.get? l = some { cls := .type "tuple", dict := dd, data := .seq items n, slots := sl } ∧ R (.ok (.ret (Value.ref l))) s) :=
  .of_wp fun prog w A R s h => by
    obtain ⟨hp, g, d, tk, os⟩ := s
    obtain ⟨hl, h⟩ := h
    have f1 := AutoSeq1.idx_int
    wp_walk using wpAny_loadPart' hl
    repeat (first
      | (refine wpAny_ite_false (decide_eq_false (by rw [c0]; exact Bool.false_ne_true)) ?_; wp_walk using wpAny_loadPart' hl)
      | (refine wpAny_ite_true (decide_eq_true (by rw [c1])) ?_; wp_walk using wpAny_loadPart' hl))
    exact ⟨_, rfl, h⟩
theorem tup_mul0 (l : Addr) (items : Array Value) (n : Nat) (sl : Array (Option Value)) (dd : Option Addr) (x : Int) (u : Tok) (c0 : (decide (x < -(2 ^ 63)) || decide (x ≥ 2 ^ 63)) = false) (c1 : (items.isEmpty || x == 1) = false) (c2 : (decide (x ≤ 0) || items.isEmpty) = true) :
    Meets (Builtin.«tuple.__mul__» ⟨[.ref l, .int x u], []⟩) (fun _ R s => s.heap.get? l = some { cls := .type "tuple", dict := dd, data := .seq items n, slots := sl } ∧
      R (.ok (.ret (Value.ref s.heap.objs.size))) { s with heap := s.heap.push { cls := Value.type "tuple", data := Data.seq #[] }, toks := s.toks }) :=
  .of_wp fun prog w A R s h => by
    obtain ⟨hp, g, d, tk, os⟩ := s
    obtain ⟨hl, h⟩ := h
    have f1 := AutoSeq1.idx_int
    wp_walk using wpAny_loadPart' hl
    repeat (first
      | (refine wpAny_ite_false (decide_eq_false (by rw [c0]; exact Bool.false_ne_true)) ?_; wp_walk using wpAny_loadPart' hl)
      | (refine wpAny_ite_false (decide_eq_false (by rw [c1]; exact Bool.false_ne_true)) ?_; wp_walk using wpAny_loadPart' hl)
      | (refine wpAny_ite_true (decide_eq_true (by rw [c2])) ?_; wp_walk using wpAny_loadPart' hl))
    exact ⟨_, rfl, h⟩
/-- a tuple taken once, or not at all -/
def rRep01 (K : PySem.W.Frag) : R2 := fun x y H Q => ∃ l k xs, x = .ref l ∧ y = .int k ∧ SqT K H l xs ∧ xs ≠ [] ∧ ((k = 1 ∧ Q (.ref l) H) ∨ (k = 0 ∧ ∀ p, H p = none → Q (.ref p) (upd H p (.tup []))))
section
variable {X : Cx}
theorem op_rep01 : OpR X (binaryOp .Mult) (rRep01 X.K) := by
  intro pins s σ H x y v u Q I rx ry h
  obtain ⟨l, k, xs, rfl, rfl, hT, hne, q⟩ := h
  cases rx
  obtain ⟨t, rfl⟩ := ry
  obtain ⟨its, r, ⟨⟨cls, dd, data, sl⟩, ho, hc, n, hd⟩, hs⟩ := I.tuple hT
  simp only at hc hd
  subst hc hd
  have hle : its.length = xs.length := r.length.symm
  have hi : its.toArray.isEmpty = false := by
    cases its with
    | nil => exact absurd (List.eq_nil_of_length_eq_zero hle.symm) hne
    | cons a b => rfl
  have c0 : (decide (k < -(2 ^ 63)) || decide (k ≥ 2 ^ 63)) = false := by
    have : k = 0 ∨ k = 1 := by
      rcases q with ⟨e, _⟩ | ⟨e, _⟩
      · exact .inr e
      · exact .inl e
    rw [decide_eq_false (by omega), decide_eq_false (by omega)] <;> rfl
  refine wpAny_binaryOp_repeat_ref (T := "tuple") (U := "int") (by decide) ⟨_, ho, rfl⟩ (fun s' => typeIs_int s' k t) noFill_tuple_mul F.fills_int_mul F.slot_int_rmul repeat_tuple F.slot_int_index.lookup
    (call_meets F.slot_int_rmul (typeIs_int s k t) F.entry_int_rmul (F.args_int_rmul_2 _ _) (int_rmul_tuple k t l its.toArray n dd sl) ⟨ho, rfl, ⟨_, ho, rfl⟩, ?_⟩)
  rcases q with ⟨rfl, q⟩ | ⟨rfl, q⟩
  · exact call_meets F.slot_tuple_mul ⟨_, ho, rfl⟩ F.entry_tuple_mul (F.args_tuple_mul_2 _ _) (tup_mul1 l its.toArray n sl dd 1 t c0 (by rw [hi]; rfl)) ⟨ho, .ref l, H, I, rfl, q⟩
  · exact call_meets F.slot_tuple_mul ⟨_, ho, rfl⟩ F.entry_tuple_mul (F.args_tuple_mul_2 _ _) (tup_mul0 l its.toArray n sl dd 0 t c0 (by rw [hi]; rfl) (by simp)) ⟨ho, .ref s.heap.objs.size, _, I.laid (t' := s.toks) (o := .tup []) (fun b ob q => Heap.get?_push_of_some _ q) (Nat.le_refl _) ⟨Nat.zero_le _, _, .nil, IsTup.new _ _⟩, rfl, q _ (I.hok.fresh (Nat.le_refl _))⟩
/-- list(x): the new list is not at the place of sys.modules -/
theorem call_listN : CallR X (.type "list") (fun xs H Q => ∃ p ys, xs = [.ref p] ∧ SqT X.K H p ys ∧ ∀ l, H l = none → l ≠ sysModules → Q (.ref l) (upd H l (.lst ys))) := by
  intro pins s σ H xs us Q I r h
  obtain ⟨p, ys, rfl, hq, q⟩ := h
  rw [Vals.ref1 r]
  obtain ⟨its, r', pl, hz⟩ := I.tuple hq
  have hlen := r'.length
  obtain ⟨o, ho, hc, n, hd⟩ := pl
  refine call_list_seq p (.inr rfl) ho hc hd (fun h' c' kp e => ?_) (by simp only [List.size_toArray] <;> omega)
  exact ⟨.ref s.heap.objs.size, _, I.laid (t' := s.toks) kp (Nat.le_refl _) (show ObjOk X.prog X.w _ h' _ (.lst ys) from ⟨hz, its, c', r', e⟩), rfl, q _ (I.hok.fresh (Nat.le_refl _)) (Nat.ne_of_gt I.big)⟩
end
end L2
namespace Dl
open PySem PySem.Spec PyProof.Rows L2
section
variable {X : Cx} {R : Res} {pos : Pos} {K : PySem.W.Frag}
def rep01 : DOp := fun dx dy q => ∃ (xs : List D) (k : Nat), dx = .tup xs ∧ dy = .int (k : Int) ∧ xs ≠ [] ∧ k ≤ 1 ∧ q (.tup (List.replicate k xs).flatten)
theorem opd_rep01 : OpD K R (rRep01 K) rep01 := by
  rintro x y dx dy H q Q rx ry o ⟨xs, k, rfl, rfl, hne, hk, w⟩ f
  cases ry
  cases rx with
  | @tup a vs _ h ra =>
    refine ⟨a, (k : Int), vs, rfl, rfl, h.sq, fun e => ?_, ?_⟩
    · rw [e] at ra
      cases ra
      exact hne rfl
    · have : k = 0 ∨ k = 1 := by omega
      rcases this with rfl | rfl
      · right
        refine ⟨rfl, fun p n => f _ _ _ w (new_tup .nil n o) (Ext.new n) (o.new n)⟩
      · left
        refine ⟨rfl, f _ _ H w ?_ (Ext.refl _ _) o⟩
        rw [show (List.replicate 1 xs).flatten = xs by simp]
        exact .tup h ra
/-- list(a tuple): a list that may be shown -/
def listN : DCall := fun ds q => ∃ xs, ds = [.tup xs] ∧ q (.lst xs)
theorem cd_listN : CallD K R (fun xs H Q => ∃ p ys, xs = [.ref p] ∧ SqT K H p ys ∧ ∀ l, H l = none → l ≠ sysModules → Q (.ref l) (upd H l (.lst ys))) listN := by
  rintro xs ds H q Q r o ⟨zs, rfl, w⟩ f
  obtain ⟨x, rfl, rx⟩ := r.one
  cases rx with
  | @tup a vs _ h ra => exact ⟨a, vs, rfl, h.sq, fun l n hs => f _ _ _ w (new_lst ra n hs o) (Ext.new n) (o.new n)⟩
end
/-! ### repr of a list of lists of the state -/
inductive InnR (K : PySem.W.Frag) (q : List Addr) (H : Hp) : List V → List (List D) → Prop
  | nil : InnR K q H [] []
  | cons {a : Addr} {us : List V} {ds : List D} {vs : List V} {dss : List (List D)} : H a = some (.lst us) → RepAll K q H us ds → InnR K q H vs dss → InnR K q H (.ref a :: vs) (ds :: dss)
def rReprLL (K : PySem.W.Frag) : List V → Hp → VK → Prop := fun xs H Q => ∃ q a vs dss, xs = [.ref a] ∧ H a = some (.lst vs) ∧ InnR K q H vs dss ∧ (D.lst (dss.map D.lst)).plain = true ∧ (D.lst (dss.map D.lst)).dp ≤ 50 ∧ (D.lst (dss.map D.lst)).sz ≤ 1000000 ∧ (D.lst (dss.map D.lst)).py.hasDict = false ∧ Q (.str (D.lst (dss.map D.lst)).py.shown) H
section
variable {X : Cx} {pins : List (Addr × Obj)} {σ : L2.St} {H : Hp} {s : Shared}
theorem inn_reads (I : Inv X pins σ H s) {q : List Addr} : ∀ {vs : List V} {dss : List (List D)} {us : List Value}, InnR X.K q H vs dss → D.plains (dss.map D.lst) = true → Vals vs us → ∃ as, ReadsAll s.heap us (D.pys (dss.map D.lst)) as
  | _, _, _, .nil, _, h => by
    cases h
    exact ⟨_, by simp only [List.map_nil, D.pys]; exact ReadsAll.nil⟩
  | _, _, _, @InnR.cons _ _ _ a us ds vs dss g ra t, p, h => by
    simp only [List.map_cons, D.plains, Bool.and_eq_true] at p
    cases h with
    | @cons _ u _ ws h1 h2 =>
      obtain rfl : u = Value.ref a := h1
      have g1 : D.plains ds = true := by simpa only [D.plain] using p.1
      obtain ⟨its, rv2, ⟨o, n, ho, hc, _, hd⟩, _⟩ := I.list (SqL.of (K := X.K) g)
      obtain ⟨as, hr, _⟩ := Rep.readsAll I ds _ its g1 ra rv2
      obtain ⟨bs, q2⟩ := inn_reads I t p.2 h2
      exact ⟨_, by simp only [List.map_cons, D.pys]; exact ReadsAll.cons (by simp only [D.py]; exact Reads.list ho hc hd hr) q2⟩
end
section
variable {X : Cx}
theorem call_reprLL (hg : X.A.guards = some []) (hu : X.A.units + 64 < cLine) : CallR X (.builtin "repr") (rReprLL X.K) := by
  intro pins s σ H xs us Q I r h
  obtain ⟨q, a, vs, dss, rfl, hs, ha, h1, h2, h3, h4, w⟩ := h
  cases r with
  | @cons _ u _ _ rv rr =>
    cases rr
    obtain rfl : u = Value.ref a := rv
    have g : D.plains (dss.map D.lst) = true := by simpa only [D.plain] using h1
    obtain ⟨its, rv2, ⟨o, n, ho, hc, _, hd⟩, _⟩ := I.list (SqL.of (K := X.K) hs)
    obtain ⟨as, hr⟩ := inn_reads I ha g rv2
    have hz := py_shown (.lst (dss.map D.lst)) h1
    have hl : (D.lst (dss.map D.lst)).py.shown.length ≤ sizeLine := by rw [sizeLine_eq]; omega
    have fin : ∀ (h' : Heap) (u tk : Tok), (∀ b o, s.heap.get? b = some o → h'.get? b = some o) → EP X pins σ Q (.str (D.lst (dss.map D.lst)).py.shown u) { s with heap := h', toks := tk } := fun h' u tk k => ⟨.str _, H, I.kept k, ⟨u, rfl⟩, w⟩
    have hdp := py_depth (.lst (dss.map D.lst)) h1
    have hsw := py_showable (.lst (dss.map D.lst)) h1
    obtain ⟨bs, rd⟩ : ∃ bs, Reads s.heap (.ref a) (D.lst (dss.map D.lst)).py bs := ⟨_, by simp only [D.py]; exact Reads.list ho hc hd hr⟩
    exact repr_of_reads' rd hsw (fun hx => by rw [h4] at hx; cases hx) hg (by rw [hdp]; omega) (fun _ _ e => e) fin hl
end
def reprLL (τ : Sy) : DCall := fun ds q => ∃ (ls : List Addr) (dss : List (List D)), ds = [.lst (ls.map D.ptr)] ∧ Paired (fun l xs => sget τ l = some (.lst xs)) ls dss ∧ (D.lst (dss.map D.lst)).plain = true ∧ (D.lst (dss.map D.lst)).dp ≤ 50 ∧ (D.lst (dss.map D.lst)).sz ≤ 1000000 ∧ (D.lst (dss.map D.lst)).py.hasDict = false ∧ q (.str (D.lst (dss.map D.lst)).py.shown)
theorem inn_of {K : PySem.W.Frag} {R : Res} {τ : Sy} {H : Hp} (S : SymAt K τ R) (o : Pot R H) : ∀ {ls : List Addr} {dss : List (List D)} {vs : List V}, Paired (fun l xs => sget τ l = some (.lst xs)) ls dss → RepAll K R.av H vs (ls.map D.ptr) → InnR K R.av H vs dss
  | _, _, _, .nil, r => by cases r; exact .nil
  | _, _, _, .cons g t, r => by
    cases r with
    | cons r1 r2 =>
      cases r1
      obtain ⟨us, hh, ra⟩ := S H o _ _ g
      exact .cons hh ra (inn_of S o t r2)
theorem cd_reprLL {K : PySem.W.Frag} {R : Res} {τ : Sy} (S : SymAt K τ R) : CallD K R (rReprLL K) (reprLL τ) := by
  rintro xs ds H q Q r o ⟨ls, dss, rfl, g, h1, h2, h3, h4, w⟩ f
  obtain ⟨x, rfl, rx⟩ := r.one
  cases rx with
  | @lst a vs _ hh _ _ ra => exact ⟨_, a, vs, dss, rfl, hh, inn_of S o g ra, h1, h2, h3, h4, f _ _ H w (.str _) (Ext.refl _ _) o⟩
/-! ### a, b, .. = a list of the state -/
section
variable {X : Cx} {R0 : Res} {h0 : ∀ H, R0.Ss H} {W : WX} {pos : Pos}
def yUnpP (is : List Nat) (t : TDY Sy) : TDSS Sy := fun e τ ρ => t τ ρ (fun τ1 d => ∃ l ds, d = .ptr l ∧ sget τ1 l = some (.lst ds) ∧ ds.length = is.length ∧ e.nx τ1 (setAll is ds ρ)) (fun C τ' => e.xc C τ' ρ)
theorem y_unpP {is : List Nat} {es : List Expr} {e : Expr} {t : TDY Sy} {k : Nat} {tp : Pos} (hc : X.calm = true) (hg : PGs X es (gNames is)) (he : YC X (SF X.K R0 h0) W e t) (hn : (assignEach es X.env).length = is.length := by rfl) (hst : (assignEach es X.env).findIdx? (·.1) = none := by rfl)
    (hs : swapsWithSole [.Tuple es k tp] e pos.line X.env = pure false := by rfl) (hw : swappedStores [.Tuple es k tp] e X.env = pure none := by rfl)
    (h1 : (assignEach [.Tuple es k tp] X.env).map (·.2) = [assign (.Tuple es k tp) X.env] := by rfl) : YS X (SF X.K R0 h0) W (.Assign [.Tuple es k tp] e pos) (yUnpP is t) :=
  PS_imp (ps_asg he (pg_lst hc hg hn hst) hs hw h1) fun E σ H ⟨τ, ρ, en, r, s, w, f⟩ => by
    refine ⟨τ, ρ, _, _, r, s, w, ?_, fun C τ' H' hx e2 s2 => f.xc C τ' ρ σ H' hx (r.step e2) e2 s2⟩
    rintro τ1 d v H1 ⟨l, ds, rfl, g, hl, w1⟩ r1 e1 s1
    cases r1
    obtain ⟨vs, hh, ra⟩ := symAt H1 s1 l _ g
    refine ⟨l, vs, rfl, .of hh, by rw [ra.length]; exact hl, ?_⟩
    exact gNames_ok is _ ds σ ρ _ ra (by rw [ra.length]; exact hl) (r.step e1) fun σ' hr' => f.nx τ1 _ σ' H1 w1 hr' e1 s1
end
end Dl

set_option Elab.async false
set_option linter.all false
set_option maxRecDepth 100000
set_option maxHeartbeats 4000000
namespace Dl
open PySem PySem.Spec PyProof.Rows L2
/-! ## {k: v for x in iter} where k is a pair of whole numbers -/
section
variable {X : Cx}
def dict0 : Obj := { cls := .type "dict", data := .dict #[] }
/-- the dict's new turn: what must be known of key and value, and what is known then -/
def DPutT (K : PySem.W.Frag) (P : Program) (w : World) (A : Addr) (y z : V) (H : Hp) (Nx : Hp → Prop) : Prop := ∃ (b : Addr) (k : Int × Int) (d : D) (kvs : List ((Int × Int) × D)) (xs : List (List Key × Addr × Value)) (ob : Obj), y = .ref b ∧ Rep K [] H y (pairD k) ∧ z = dvOf d ∧ flatD d = true ∧ H A = some (DctO P w A xs ob) ∧ Paired (EntQ K H) kvs xs ∧ xs.length < sizeLine ∧
  ∀ u ob', RelV z u → Nx (upd H A (DctO P w A (storedH xs (key2 k) b u) ob'))
theorem dct_set {pins : List (Addr × Obj)} {σ : L2.St} {H : Hp} {s : Shared} {E : Value → Shared → Prop} {A : Addr} {y z : V} {u r : Value} {Nx : Hp → Prop} {Q : Unit → Shared → Prop} (hu : X.A.units + 64 < cLine) (I : Inv X pins σ H s) (ry : RelV y u) (rv : RelV z r) (p : DPutT X.K X.prog X.w A y z H Nx) (h : ∀ s' H', Nx H' → Inv X pins σ H' s' → Q () s') : wpAny (model X.prog X.w) X.A (dictSet A u r) Q E s := by
  obtain ⟨b, k, d, kvs, xs, ob, rfl, rk, rfl, fl, hD, pr, hz, nx⟩ := p
  obtain rfl : u = Value.ref b := ry
  obtain ⟨dd, hs, hl⟩ := dct_full I hD pr
  have hk := key_at I (rep_key rk)
  refine wpAny_dictSet_heap (knd := TkK X.prog X.w) (show X.A.units < cLine by omega) hk dd (fun h' dd' sb => ?_) hl
  obtain ⟨o', es, ep, g1, g2, g3, g4, g5, g6⟩ := dd'
  have hlen : (storedH xs (key2 k) b r).length ≤ sizeLine := by
    have : (storedH xs (key2 k) b r).length ≤ xs.length + 1 := by
      unfold storedH
      split <;> simp
    omega
  refine h _ _ (nx r o' rv) (d_write I (by rw [hD]; exact True.intro) sb ⟨o', g1⟩ ?_)
  show ObjOk X.prog X.w _ _ _ (.ext _)
  exact ⟨⟨hlen, hs, g1, es, ep, g2, g3, g4, g6⟩, ⟨o', g1⟩, fun h1 h2 ⟨a1, a2, a3, a4⟩ k => ⟨a1, a2, k _ a3, a4⟩⟩
/-- {k: v for tg in iter if ..}: A the new dict; W i m H: what is known before turn i, m more turns at most -/
def tDcT (K : PySem.W.Frag) (P : Program) (w : World) (wi : TI) (g : TG) (tt : TT) (tk tv : TE) (vs : List Nat) : TE := fun σ H Q => wi σ H fun J H1 => ∀ A, H1 A = none → ∃ W : Nat → Nat → Hp → Prop, (∃ m, W 0 m (upd H1 A (DctO P w A [] dict0))) ∧ ∀ i m H, W i m H →
  (J.stop i H ∧ Q (.ref A) H) ∨ (J.go i H ∧ ∃ Nx : Hp → Prop, (∀ H', Nx H' → ∃ m', m' < m ∧ W (i + 1) m' H') ∧ ∀ x H', J.yld i H x H' → g x (wipe σ vs) H' fun σ2 H2 => wipe σ2 vs = wipe σ vs ∧ tt σ2 H2 fun b H3 =>
    if b = true then tk σ2 H3 fun y H4 => tv σ2 H4 fun z H5 => DPutT K P w A y z H5 Nx else Nx H3)
theorem dct_empty {P : Program} {w : World} {H : Hp} (h : Heap) (hb : sysModules < h.objs.size) : ObjOk P w H (h.push dict0) h.objs.size (DctO P w h.objs.size [] dict0) := by
  show ObjOk P w _ _ _ (.ext _)
  exact ⟨⟨Nat.zero_le _, beq_eq_false_iff_ne.mpr (Ne.symm (Nat.ne_of_lt hb)), Heap.get?_push_size _ rfl, #[], 0, ⟨rfl, rfl, rfl⟩, rfl, rfl, List.nodup_nil⟩, ⟨dict0, Heap.get?_push_size _ rfl⟩, fun h1 h2 ⟨a1, a2, a3, a4⟩ k => ⟨a1, a2, k _ a3, a4⟩⟩
theorem pe_dcT {kx vx tg iter : Expr} {ifs : List Expr} {scope : Scope} {own : List (Str × Nat)} {pos : Pos} {wi : TI} {g : TG} {tt : TT} {tk tv : TE} (hc : X.calm = true) (hu : X.A.units + 64 < cLine) (hN : X.N.Nodup) (hi : PI X tg iter wi) (ok : BlkOk X.N X.env.scope scope own)
    (hg : ∀ (s : Shared) (H : Hp) (C : Addr) (cl : List (Str × Addr)) (fp : List Addr), PG (X.blk s H scope (compEnvC scope cl C X.env) fp) tg g) (ht : ∀ (s : Shared) (H : Hp) (C : Addr) (cl : List (Str × Addr)) (fp : List Addr), PTs (X.blk s H scope (compEnvC scope cl C X.env) fp) ifs tt)
    (hk : ∀ (s : Shared) (H : Hp) (C : Addr) (cl : List (Str × Addr)) (fp : List Addr), PE (X.blk s H scope (compEnvC scope cl C X.env) fp) kx tk)
    (he : ∀ (s : Shared) (H : Hp) (C : Addr) (cl : List (Str × Addr)) (fp : List Addr), PE (X.blk s H scope (compEnvC scope cl C X.env) fp) vx tv) (hs : ∀ x, foldedSetIterable iter X.env x = pure x := by intro _; rfl) :
    PE X (.DictComp kx vx [⟨tg, iter, ifs, 0⟩] scope pos) (tDcT X.K X.prog X.w wi g tt tk tv (own.map (·.2))) := by
  refine ⟨fun pins s σ H Q I h => ?_⟩
  rw [arm_eval_DictComp]
  have hfree : ∀ y ∈ scope.names, y.2 = .free → ∃ c, X.env.cells.lookup y.1 = some c := fun y hy e => (ok.free y hy e).elim (fun k => I.ok.has _ (.inl k)) fun k => I.ok.has _ (.inr k)
  refine wpAny_comprehension_free (use := none) rfl hs (closure_ok hfree) ok.kind (fun y hy e => by rw [ok.uniq y hy, e]) (thn (hi.run pins s σ H _ I h) fun xv s1 hx => thn hx fun itv s2 h2 => ?_)
  obtain ⟨it, fp, tn, J, H2, rfl, I2, T, st2, f2, q⟩ := h2
  refine wpAny_newObj_type (newEnv_comp ?_)
  obtain ⟨W, ⟨m0, w0⟩, turn⟩ := q s2.heap.objs.size (I2.hok.fresh (Nat.le_refl _))
  -- the dict lies at the end of the heap
  have hold : ∀ b o, s2.heap.get? b = some o → (s2.heap.push dict0).get? b = some o := fun b o e => Heap.get?_push_of_some _ e
  have I3 : Inv X pins σ (upd H2 s2.heap.objs.size (DctO X.prog X.w s2.heap.objs.size [] dict0)) { s2 with heap := s2.heap.push dict0, toks := s2.toks } := I2.laid (t' := s2.toks) hold (Nat.le_refl _) (dct_empty s2.heap I2.big)
  have f3 : ∀ b ∈ fp, FpOk X pins (upd H2 s2.heap.objs.size (DctO X.prog X.w s2.heap.objs.size [] dict0)) b ∧ b < (s2.heap.push dict0).objs.size := fun b hb => by
    obtain ⟨o, e, _⟩ := T.obj _ _ st2 b hb
    have hlt : b < s2.heap.objs.size := Heap.lt_size e
    refine ⟨⟨?_, (f2 b hb).2⟩, by rw [Heap.size_push]; exact Nat.lt_succ_of_lt hlt⟩
    rw [upd_ne (Nat.ne_of_lt hlt)]
    exact (f2 b hb).1
  have st3 : tn 0 (s2.heap.push dict0) := T.keep _ _ _ st2 fun b _ o e => hold b o e
  generalize hH3 : upd H2 s2.heap.objs.size (DctO X.prog X.w s2.heap.objs.size [] dict0) = H3 at I3 f3 w0
  generalize hs3 : ({ s2 with heap := s2.heap.push dict0, toks := s2.toks } : Shared) = s3 at I3
  have e3 : s3.heap = s2.heap.push dict0 := by rw [← hs3]
  rw [← e3] at f3 st3
  have I4 := block_start I3 ok hN f3
  have pg := hg s3 H3 s3.heap.objs.size (cellsFrom (s3.heap.objs.size + 1) scope.names (cloFrom X.env.cells scope.names [])) fp
  have pt := ht s3 H3 s3.heap.objs.size (cellsFrom (s3.heap.objs.size + 1) scope.names (cloFrom X.env.cells scope.names [])) fp
  have pk := hk s3 H3 s3.heap.objs.size (cellsFrom (s3.heap.objs.size + 1) scope.names (cloFrom X.env.cells scope.names [])) fp
  have pe := he s3 H3 s3.heap.objs.size (cellsFrom (s3.heap.objs.size + 1) scope.names (cloFrom X.env.cells scope.names [])) fp
  have goal : ∀ c s4, c = s3.heap.objs.size → s4 = ({ s3 with heap := pushCells (s3.heap.push { cls := .type "dict", data := .dict #[] }) scope.names } : Shared) → codeAny (model X.prog X.w) X.A (.compStart (.DictComp kx vx [⟨tg, iter, ifs, 0⟩] scope pos) 0 (.ref it) (.ref s2.heap.objs.size) (compEnvC scope (cellsFrom (s3.heap.objs.size + 1) scope.names (cloFrom X.env.cells scope.names [])) s3.heap.objs.size X.env)) (compPost (model X.prog X.w) X.A X.xe none (EP X pins σ Q) (.ref s2.heap.objs.size) c) s4 := by
    rintro c s4 rfl hs4
    rw [← hs4] at I4
    have st4 : tn 0 s4.heap := T.keep _ _ _ st3 fun b _ o e => by rw [hs4]; exact pushCells_keeps _ _ _ _ (Heap.get?_push_of_some _ e)
    generalize hce : compEnvC scope (cellsFrom (s3.heap.objs.size + 1) scope.names (cloFrom X.env.cells scope.names [])) s3.heap.objs.size X.env = ce at I4 pg pt pk pe ⊢
    have cL : ce.locals = s3.heap.objs.size := by rw [← hce]; rfl
    have stat : ∀ {σ' : L2.St} {H' : Hp} {s' : Shared}, Inv (X.blk s3 H3 scope ce fp) [] σ' H' s' → (∀ b ∈ fp, H' b = none) → ∀ b ∈ fp, FpOk (X.blk s3 H3 scope ce fp) [] H' b := fun I' hn b hb =>
      ⟨hn b hb, (I'.ok.exf b hb).1, I'.ok.exfs b hb, .inl hb, fun x c e => (I'.ok.exf b hb).2 x c e, fun p hp => absurd (show p ∈ ([] : List (Addr × Obj)) ++ [] from hp) (by simp)⟩
    have loop : codeAny (model X.prog X.w) X.A (.compLoop (.DictComp kx vx [⟨tg, iter, ifs, 0⟩] scope pos) 0 (.ref it) (.ref s2.heap.objs.size) ce) (compPost (model X.prog X.w) X.A X.xe none (EP X pins σ Q) (.ref s2.heap.objs.size) s3.heap.objs.size) s4 := by
      refine compLoop_anyD (fun n s' => ∃ i H', Inv (X.blk s3 H3 scope ce fp) [] (wipe σ (own.map (·.2))) H' s' ∧ tn i s'.heap ∧ (∀ b ∈ fp, H' b = none) ∧ W i n H') (fun n s5 ⟨i, H5, I5, st5, n5, w5⟩ => ?_) m0 ⟨0, H3, I4, st4, fun b hb => (f3 b hb).1.1, w0⟩
      rcases turn i n H5 w5 with ⟨stop, qq⟩ | ⟨go, Nx, hNx, step⟩
      · refine thnF (T.done (X.blk s3 H3 scope ce fp) rfl rfl rfl hc i [] s5 _ H5 (fun _ _ => False) I5 (stat I5 n5) st5 stop) fun r s6 ⟨hr, I6⟩ => ?_
        subst hr
        have I7 : Inv X pins σ H5 s6 := I3.call' (ch := fp) I6.os I6.base I6.hok I6.bare fun b hb => ⟨(f3 b hb).1.2.2.2.1, (f3 b hb).1.2.1, (f3 b hb).1.2.2.2.2.1, (f3 b hb).1.2.2.2.2.2⟩
        have nC : H5 s3.heap.objs.size = none := by
          have z : H5 ce.locals = none := I6.free
          rwa [cL] at z
        obtain ⟨m, hn, _⟩ := I6.loc
        have hn : s6.heap.Ns ce.locals m := hn
        rw [cL] at hn
        obtain ⟨f0, f1, f2', f3', f4, f5⟩ := I3.fpOk (Nat.le_refl _) nC
        exact ⟨m, hn, fun h'' sb => ⟨.ref _, H5, I7.turned (t' := s6.toks) (fun b o hb e => (sb.2 b hb).trans e) f0 f1 f3' f4 f5, rfl, qq⟩⟩
      · refine thnF (T.item (X.blk s3 H3 scope ce fp) rfl rfl rfl hc i [] s5 _ H5 (fun _ _ => False) I5 (stat I5 n5) st5 go) fun r s6 ⟨u, hr, h6⟩ => ?_
        subst hr
        refine thnF h6 fun _ s7 ⟨x, H7, I7, r7, y7, st7, n7⟩ => ?_
        refine thnF (pg.run _ s7 _ H7 x u _ (I7.pinned (stat I7 n7) (T.obj _ _ st7)) r7 (step x H7 y7)) fun _ s8 ⟨σ8, H8, I8, hw8, q8⟩ => ?_
        refine thnF (pt.run _ s8 σ8 H8 _ I8 q8) fun b s9 ⟨H9, I9, q9⟩ => ?_
        have fin : ∀ (s' : Shared) (H' : Hp), Nx H' → Inv (X.blk s3 H3 scope ce fp) ([] ++ pinsAt fp s7.heap) σ8 H' s' → ∃ m, m < n ∧ ∃ i H', Inv (X.blk s3 H3 scope ce fp) [] (wipe σ (own.map (·.2))) H' s' ∧ tn i s'.heap ∧ (∀ b ∈ fp, H' b = none) ∧ W i m H' := fun s' H' nx I' => by
          obtain ⟨m', hm, w'⟩ := hNx H' nx
          have pin' : ∀ b ∈ fp, ∀ o, s7.heap.get? b = some o → s'.heap.get? b = some o ∧ H' b = none := fun b hb o e =>
            let z := I'.pin (b, o) (List.mem_append_right _ (List.mem_append_right _ (mem_pinsAt hb e)))
            ⟨z.1, z.2.1⟩
          refine ⟨m', hm, i + 1, H', (I'.unpinned (pins := [])).weak (by rw [← hw8, wipe_length]) (fun j v e => ?_), T.keep _ _ _ st7 fun b hb o e => (pin' b hb o e).1, fun b hb => ?_, w'⟩
          · rw [← hw8] at e
            exact (wipe_some e).1
          · obtain ⟨o, e, _⟩ := T.obj _ _ st7 b hb
            exact (pin' b hb o e).2
        cases b with
        | false =>
          simp only [Bool.false_eq_true, if_false] at q9 ⊢
          exact fin _ _ q9 I9
        | true =>
          simp only [if_true] at q9 ⊢
          refine thnF (pk.run _ s9 σ8 H9 _ I9 q9) fun z s10 ⟨yk, H10, I10, r10, q10⟩ => ?_
          refine thnF (pe.run _ s10 σ8 H10 _ I10 q10) fun z2 s11 ⟨yv, H11, I11, r11, dp⟩ => ?_
          exact dct_set (X := X.blk s3 H3 scope ce fp) hu I11 r10 r11 dp fun s12 H12 nx I12 => fin s12 H12 nx I12
    exact codeAny_compStart_dict loop (T.self X.A 0 _ _ _ st4 loop)
  subst hs3
  exact goal _ _ rfl rfl
end
section
variable {X : Cx} {R0 : Res} {h0 : ∀ H, R0.Ss H} {W : WX} {pos : Pos}
def cDcT (P : Program) (w : World) (i : Nat) (wi : Sy → TDI) (tk tv : TDE) : TDY Sy := fun τ ρ q _ => wi τ ρ fun ds => ds.length < sizeLine ∧ ∃ f : D → (Int × Int) × D, (∀ d ∈ ds, tk (ρ.set i (some d)) fun kd => kd = pairD (f d).1 ∧ tv (ρ.set i (some d)) fun vd => vd = (f d).2 ∧ flatD vd = true) ∧ ∀ a, sget τ a = none → q ((a, .dct P w (dictP (ds.map f))) :: τ) (.ptr a)
theorem dictP_snoc (ps : List ((Int × Int) × D)) (p : (Int × Int) × D) : dictP (ps ++ [p]) = putP (dictP ps) p.1 p.2 := by
  unfold dictP
  rw [List.foldl_append]
  rfl
theorem c_dcT {i : Nat} {x : Str} {px : Pos} {kx vx iter : Expr} {scope : Scope} {wi : Sy → TDI} {tk tv : TDE} (P : Program) (w : World) (hP : X.prog = P) (hw : X.w = w) (hc : X.calm = true) (hu : X.A.units + 64 < cLine) (nd : X.N.Nodup) (hi : ∀ τ, EIP X ((SF X.K R0 h0).at τ) (.Name x px) iter (wi τ)) (ok : BlkOk X.N X.env.scope scope [(x, i)])
    (hg : ∀ (s : Shared) (H : Hp) (C : Addr) (cl : List (Str × Addr)) (fp : List Addr), PG (X.blk s H scope (compEnvC scope cl C X.env) fp) (.Name x px) (gName i))
    (hk : ∀ (τ : Sy) (s : Shared) (H : Hp) (C : Addr) (cl : List (Str × Addr)) (fp : List Addr) (A : Addr), EE (X.blk s H scope (compEnvC scope cl C X.env) fp) (((SF X.K R0 h0).at τ).add A) kx tk)
    (hv : ∀ (τ : Sy) (s : Shared) (H : Hp) (C : Addr) (cl : List (Str × Addr)) (fp : List Addr) (A : Addr), EE (X.blk s H scope (compEnvC scope cl C X.env) fp) (((SF X.K R0 h0).at τ).add A) vx tv) (hs : ∀ x, foldedSetIterable iter X.env x = pure x := by intro _; rfl) :
    YC X (SF X.K R0 h0) W (.DictComp kx vx [⟨.Name x px, iter, [], 0⟩] scope pos) (cDcT P w i wi tk tv) := by
  subst hP hw
  refine ⟨fun pins s σ H Q I ⟨τ, ρ, q, xx, r, s', w0, fi, gg⟩ => ?_⟩
  refine (pe_dcT (own := [(x, i)]) (g := gName i) (tt := tYes) (tk := tEl X.K ((SF X.K R0 h0).at τ) tk) (tv := tEl X.K ((SF X.K R0 h0).at τ) tv) hc hu nd (hi τ) ok hg (fun _ _ _ _ _ => pts_nil) (fun s H C cl fp => ⟨fun pins s' σ H' Q I ⟨A, w⟩ => (hk τ s H C cl fp A).run pins s' σ H' Q I w⟩) (fun s H C cl fp => ⟨fun pins s' σ H' Q I ⟨A, w⟩ => (hv τ s H C cl fp A).run pins s' σ H' Q I w⟩) hs).run pins s σ H Q I ?_
  refine ⟨ρ, _, r, s', w0, ?_⟩
  rintro ds J H1 ⟨hz, f, hstep, hend⟩ ⟨G, Y, wk, gs, ys⟩ e1 o1 A nA
  have eA : Ext R0.p H1 (upd H1 A (DctO X.prog X.w A [] dict0)) := Ext.new nA
  have rS : REnv X.K (((SF X.K R0 h0).at τ).add A).av (upd H1 A (DctO X.prog X.w A [] dict0)) σ ρ := ((r.mono (R := (SF X.K R0 h0).at τ) e1).strong nA).mono0 (Ext.new nA)
  have nAp : A ∉ R0.p := fun m => (Pot.nin (R := (SF X.K R0 h0).at τ) o1 nA) (List.mem_append_left _ m)
  let Pv : Nat → Hp → Prop := fun j H' => j ≤ ds.length ∧ Ext R0.p H1 H' ∧ Pot ((SF X.K R0 h0).at τ) H' ∧ ∃ xs ob, H' A = some (DctO X.prog X.w A xs ob) ∧ Paired (EntR X.K (((SF X.K R0 h0).at τ).add A).av H') (dictP ((ds.take j).map f)) xs ∧ xs.length ≤ j ∧ REnv X.K (((SF X.K R0 h0).at τ).add A).av H' σ ρ
  refine ⟨fun j m H' => m = ds.length - j ∧ Pv j H', ⟨_, rfl, Nat.zero_le _, eA, o1.new nA, [], dict0, upd_same, by rw [List.take_zero]; exact .nil, Nat.le_refl _, rS⟩, ?_⟩
  rintro j m H' ⟨rfl, hjl, e2, o2, xs, ob, hA, pr, hl, re⟩
  have gH := gs H' e2
  by_cases hlt : j < ds.length
  · refine .inr ⟨wk.goes j H' hlt gH, Pv (j + 1), fun H'' p' => ⟨ds.length - (j + 1), by omega, rfl, p'⟩, fun x H'' hy => ?_⟩
    obtain ⟨rfl, d, hd, rd⟩ := ys j H' x H'' hlt e2 (wk.yields j H' x H'' hlt gH hy)
    have oA : Pot (((SF X.K R0 h0).at τ).add A) H'' := Pot.add o2 nAp (by rw [hA]; exact fun z => nomatch z)
    have htk : ds.take (j + 1) = ds.take j ++ [d] := by rw [List.take_add_one, hd]; rfl
    refine ⟨by show (((σ.set i none).set i (some x)).set i none) = σ.set i none; rw [List.set_set, List.set_set], ?_⟩
    dsimp only [tYes]
    rw [if_pos rfl]
    have hset : ((wipe σ [i]).set i (some x)) = (σ.set i (some x)) := by show (σ.set i none).set i (some x) = _; rw [List.set_set]
    have rset : REnv X.K (((SF X.K R0 h0).at τ).add A).av H'' ((wipe σ [i]).set i (some x)) (ρ.set i (some d)) := by
      rw [hset]
      exact re.set (Rep.mono0 (p := (((SF X.K R0 h0).at τ).add A).av) (fun b u nb hb => e2 b u (fun m => nb (List.mem_append_left _ m)) hb) (rd.strong nA)) i
    refine ⟨A, ρ.set i (some d), _, rset, oA, hstep d (List.mem_of_getElem? hd), fun kd y H3 wk' ry e3 o3 => ?_⟩
    obtain ⟨rfl, wv⟩ := wk'
    refine ⟨A, ρ.set i (some d), _, rset.mono (R := ((SF X.K R0 h0).at τ).add A) e3, o3, wv, fun vd z H4 wv' rz e4 o4 => ?_⟩
    obtain ⟨rfl, fl⟩ := wv'
    obtain ⟨b, rfl⟩ := pair_ref ry
    obtain ⟨ez, _⟩ := flat_eq rz fl
    have e34 : ∀ b o, b ∉ R0.p → H'' b = some o → H4 b = some o := fun b o nb hb => e4 b o nb (e3 b o nb hb)
    have pr4 : Paired (EntR X.K (((SF X.K R0 h0).at τ).add A).av H4) (dictP ((ds.take j).map f)) xs := Paired.mapP pr fun _ _ z => ⟨z.1, Rep.mono (R := ((SF X.K R0 h0).at τ).add A) z.2.1 e34, z.2.2⟩
    have ry4 := Rep.mono (R := ((SF X.K R0 h0).at τ).add A) ry e4
    refine ⟨b, (f d).1, (f d).2, _, xs, ob, rfl, Rep.weak (fun _ m => (by cases m)) ry4, ez, fl, e34 A _ nAp hA, Paired.mapP pr4 fun _ _ z => z.q, by omega, fun u ob' ru => ⟨hlt, ?_, ?_, _, ob', upd_same, ?_, ?_, ?_⟩⟩
    · intro c u nc hc
      rw [upd_ne (ne_of_none hc nA)]
      exact e34 c u nc (e2 c u nc hc)
    · refine Pot.mix o1 (fun c u nc hc => ?_) (Pot.of_add o4) (fun c m => upd_ne (fun e => nAp (e ▸ m)))
      rw [upd_ne (ne_of_none hc nA)]
      exact e34 c u nc (e2 c u nc hc)
    · rw [htk, List.map_append, List.map_singleton, dictP_snoc]
      exact ent_put (Paired.mapP pr4 fun _ _ z => ⟨z.1, Rep.mono0 (Ext.put Res.add_mem) z.2.1, z.2.2⟩) ⟨rfl, Rep.mono0 (Ext.put Res.add_mem) ry4, fl, ez ▸ ru⟩
    · have : (storedH xs (key2 (f d).1) b u).length ≤ xs.length + 1 := by
        unfold storedH
        split <;> simp
      omega
    · exact (re.mono (R := ((SF X.K R0 h0).at τ).add A) e34).mono0 (Ext.put Res.add_mem)
  · have e : j = ds.length := by omega
    subst e
    refine .inl ⟨wk.stops H' gH, ?_⟩
    rw [List.take_length] at pr
    have hHA : H A = none := by
      cases e : H A with
      | none => rfl
      | some o => rw [e1 A o nAp e] at nA; cases nA
    let H0 : Hp := fun b => if b = A then none else H' b
    have hH : upd H0 A (DctO X.prog X.w A xs ob) = H' := by
      funext c
      by_cases q : c = A
      · subst q; rw [upd_same, hA]
      · rw [upd_ne q]
        show (if c = A then none else H' c) = H' c
        rw [if_neg q]
    have n0 : H0 A = none := by show (if A = A then none else H' A) = none; rw [if_pos rfl]
    have s0 : (SF X.K R0 h0).S τ H0 := by
      refine Pot.mix (R := (SF X.K R0 h0).at τ) o1 (fun c u nc hc => ?_) o2 (fun c m => ?_)
      · show (if c = A then none else H' c) = some u
        rw [if_neg (ne_of_none hc nA)]
        exact e2 c u nc hc
      · show (if c = A then none else H' c) = H' c
        exact if_neg (fun (e : c = A) => nAp (e ▸ m))
    have st : Step (SF X.K R0 h0) τ H ((A, .dct X.prog X.w (dictP (ds.map f))) :: τ) H' := ⟨fun c o nc e => e2 c o (fun m => nc (List.mem_append_left _ m)) (e1 c o (fun m => nc (List.mem_append_left _ m)) e), fun c m => by
      have m' : c ∈ A :: (τ.map (·.1) ++ R0.n) := m
      rcases List.mem_cons.mp m' with rfl | m'
      · exact .inr hHA
      · exact .inl (List.mem_append_right _ m')⟩
    refine fi _ _ _ H' (hend A (sget_none o1 nA)) (.ptr A) st ?_
    rw [← hH]
    refine new_ok s0 n0 ⟨xs, ob, upd_same, ?_⟩
    rw [hH]
    exact pr
end
end Dl

set_option Elab.async false
set_option linter.all false
set_option maxRecDepth 100000
set_option maxHeartbeats 4000000
namespace Dl
open PySem PySem.Spec PyProof.Rows L2
/-! ## {k: v for x in iter} where k is a whole number -/
def dictK (ps : List (Int × D)) : List (Key × D) := ps.foldl (fun acc p => putKD acc (.inl p.1) p.2) []
theorem dictK_snoc (ps : List (Int × D)) (p : Int × D) : dictK (ps ++ [p]) = putKD (dictK ps) (.inl p.1) p.2 := by
  unfold dictK
  rw [List.foldl_append]
  rfl
section
variable {X : Cx} {R0 : Res} {h0 : ∀ H, R0.Ss H} {W : WX} {pos : Pos}
def cDcK (i : Nat) (wi : Sy → TDI) (tk tv : TDE) : TDY Sy := fun τ ρ q _ => wi τ ρ fun ds => ds.length < sizeLine ∧ ∃ f : D → Int × D, (∀ d ∈ ds, tk (ρ.set i (some d)) fun kd => kd = .int (f d).1 ∧ tv (ρ.set i (some d)) fun vd => vd = (f d).2) ∧ ∀ a, sget τ a = none → q ((a, .dic (dictK (ds.map f))) :: τ) (.ptr a)
theorem c_dcK {i : Nat} {x : Str} {px : Pos} {kx vx iter : Expr} {scope : Scope} {wi : Sy → TDI} {tk tv : TDE} (hc : X.calm = true) (nd : X.N.Nodup) (hi : ∀ τ, EIP X ((SF X.K R0 h0).at τ) (.Name x px) iter (wi τ)) (ok : BlkOk X.N X.env.scope scope [(x, i)])
    (hg : ∀ (s : Shared) (H : Hp) (C : Addr) (cl : List (Str × Addr)) (fp : List Addr), PG (X.blk s H scope (compEnvC scope cl C X.env) fp) (.Name x px) (gName i))
    (hk : ∀ (τ : Sy) (s : Shared) (H : Hp) (C : Addr) (cl : List (Str × Addr)) (fp : List Addr) (A : Addr), EE (X.blk s H scope (compEnvC scope cl C X.env) fp) (((SF X.K R0 h0).at τ).add A) kx tk)
    (hv : ∀ (τ : Sy) (s : Shared) (H : Hp) (C : Addr) (cl : List (Str × Addr)) (fp : List Addr) (A : Addr), EE (X.blk s H scope (compEnvC scope cl C X.env) fp) (((SF X.K R0 h0).at τ).add A) vx tv) (hs : ∀ x, foldedSetIterable iter X.env x = pure x := by intro _; rfl) :
    YC X (SF X.K R0 h0) W (.DictComp kx vx [⟨.Name x px, iter, [], 0⟩] scope pos) (cDcK i wi tk tv) := by
  refine ⟨fun pins s σ H Q I ⟨τ, ρ, q, xx, r, s', w0, fi, gg⟩ => ?_⟩
  refine (pe_dc (own := [(x, i)]) (g := gName i) (tt := tYes) (tk := tEl X.K ((SF X.K R0 h0).at τ) tk) (tv := tEl X.K ((SF X.K R0 h0).at τ) tv) hc nd (hi τ) ok hg (fun _ _ _ _ _ => pts_nil) (fun s H C cl fp => ⟨fun pins s' σ H' Q I ⟨A, w⟩ => (hk τ s H C cl fp A).run pins s' σ H' Q I w⟩) (fun s H C cl fp => ⟨fun pins s' σ H' Q I ⟨A, w⟩ => (hv τ s H C cl fp A).run pins s' σ H' Q I w⟩) hs).run pins s σ H Q I ?_
  refine ⟨ρ, _, r, s', w0, ?_⟩
  rintro ds J H1 ⟨hz, f, hstep, hend⟩ ⟨G, Y, wk, gs, ys⟩ e1 o1 A nA
  have eA : Ext R0.p H1 (upd H1 A (.dK [])) := Ext.new nA
  have rS : REnv X.K (((SF X.K R0 h0).at τ).add A).av (upd H1 A (.dK [])) σ ρ := ((r.mono (R := (SF X.K R0 h0).at τ) e1).strong nA).mono0 (Ext.new nA)
  have nAp : A ∉ R0.p := fun m => (Pot.nin (R := (SF X.K R0 h0).at τ) o1 nA) (List.mem_append_left _ m)
  let Pv : Nat → Hp → Prop := fun j H' => j ≤ ds.length ∧ Ext R0.p H1 H' ∧ Pot ((SF X.K R0 h0).at τ) H' ∧ ∃ xs, H' A = some (.dK xs) ∧ PairR X.K (((SF X.K R0 h0).at τ).add A).av H' xs (dictK ((ds.take j).map f)) ∧ xs.length ≤ j ∧ REnv X.K (((SF X.K R0 h0).at τ).add A).av H' σ ρ
  refine ⟨fun j m H' => m = ds.length - j ∧ Pv j H', ⟨_, rfl, Nat.zero_le _, eA, o1.new nA, [], upd_same, by rw [List.take_zero]; exact .nil, Nat.le_refl _, rS⟩, ?_⟩
  rintro j m H' ⟨rfl, hjl, e2, o2, xs, hA, pr, hl, re⟩
  have gH := gs H' e2
  by_cases hlt : j < ds.length
  · refine .inr ⟨wk.goes j H' hlt gH, Pv (j + 1), fun H'' p' => ⟨ds.length - (j + 1), by omega, rfl, p'⟩, fun x H'' hy => ?_⟩
    obtain ⟨rfl, d, hd, rd⟩ := ys j H' x H'' hlt e2 (wk.yields j H' x H'' hlt gH hy)
    have oA : Pot (((SF X.K R0 h0).at τ).add A) H'' := Pot.add o2 nAp (by rw [hA]; exact fun z => nomatch z)
    have htk : ds.take (j + 1) = ds.take j ++ [d] := by rw [List.take_add_one, hd]; rfl
    refine ⟨by show (((σ.set i none).set i (some x)).set i none) = σ.set i none; rw [List.set_set, List.set_set], ?_⟩
    dsimp only [tYes]
    rw [if_pos rfl]
    have hset : ((wipe σ [i]).set i (some x)) = (σ.set i (some x)) := by show (σ.set i none).set i (some x) = _; rw [List.set_set]
    have rset : REnv X.K (((SF X.K R0 h0).at τ).add A).av H'' ((wipe σ [i]).set i (some x)) (ρ.set i (some d)) := by
      rw [hset]
      exact re.set (Rep.mono0 (p := (((SF X.K R0 h0).at τ).add A).av) (fun b u nb hb => e2 b u (fun m => nb (List.mem_append_left _ m)) hb) (rd.strong nA)) i
    refine ⟨A, ρ.set i (some d), _, rset, oA, hstep d (List.mem_of_getElem? hd), fun kd y H3 wk' ry e3 o3 => ?_⟩
    obtain ⟨rfl, wv⟩ := wk'
    refine ⟨A, ρ.set i (some d), _, rset.mono (R := ((SF X.K R0 h0).at τ).add A) e3, o3, wv, fun vd z H4 wv' rz e4 o4 => ?_⟩
    obtain rfl := wv'
    have ey : y = kV (.inl (f d).1) := by cases ry; rfl
    have e34 : ∀ b o, b ∉ R0.p → H'' b = some o → H4 b = some o := fun b o nb hb => e4 b o nb (e3 b o nb hb)
    have pr4 : PairR X.K (((SF X.K R0 h0).at τ).add A).av H4 xs (dictK ((ds.take j).map f)) := PairR.of (fun _ _ rr => Rep.mono (R := ((SF X.K R0 h0).at τ).add A) rr e34) pr
    refine ⟨xs, .inl (f d).1, ey, e34 A _ nAp hA, by omega, ⟨hlt, ?_, ?_, _, upd_same, ?_, ?_, ?_⟩⟩
    · intro c u nc hc
      rw [upd_ne (ne_of_none hc nA)]
      exact e34 c u nc (e2 c u nc hc)
    · refine Pot.mix o1 (fun c u nc hc => ?_) (Pot.of_add o4) (fun c m => upd_ne (fun e => nAp (e ▸ m)))
      rw [upd_ne (ne_of_none hc nA)]
      exact e34 c u nc (e2 c u nc hc)
    · rw [htk, List.map_append, List.map_singleton, dictK_snoc]
      exact PairR.of (fun _ _ rr => Rep.mono0 (Ext.put Res.add_mem) rr) (putK_of pr4 rz)
    · have : (putK xs (.inl (f d).1) z).length ≤ xs.length + 1 := length_putK _ _ _
      omega
    · exact (re.mono (R := ((SF X.K R0 h0).at τ).add A) e34).mono0 (Ext.put Res.add_mem)
  · have e : j = ds.length := by omega
    subst e
    refine .inl ⟨wk.stops H' gH, ?_⟩
    rw [List.take_length] at pr
    have hHA : H A = none := by
      cases e : H A with
      | none => rfl
      | some o => rw [e1 A o nAp e] at nA; cases nA
    let H0 : Hp := fun b => if b = A then none else H' b
    have hH : upd H0 A (.dK xs) = H' := by
      funext c
      by_cases q : c = A
      · subst q; rw [upd_same, hA]
      · rw [upd_ne q]
        show (if c = A then none else H' c) = H' c
        rw [if_neg q]
    have n0 : H0 A = none := by show (if A = A then none else H' A) = none; rw [if_pos rfl]
    have s0 : (SF X.K R0 h0).S τ H0 := by
      refine Pot.mix (R := (SF X.K R0 h0).at τ) o1 (fun c u nc hc => ?_) o2 (fun c m => ?_)
      · show (if c = A then none else H' c) = some u
        rw [if_neg (ne_of_none hc nA)]
        exact e2 c u nc hc
      · show (if c = A then none else H' c) = H' c
        exact if_neg (fun (e : c = A) => nAp (e ▸ m))
    have st : Step (SF X.K R0 h0) τ H ((A, .dic (dictK (ds.map f))) :: τ) H' := ⟨fun c o nc e => e2 c o (fun m => nc (List.mem_append_left _ m)) (e1 c o (fun m => nc (List.mem_append_left _ m)) e), fun c m => by
      have m' : c ∈ A :: (τ.map (·.1) ++ R0.n) := m
      rcases List.mem_cons.mp m' with rfl | m'
      · exact .inr hHA
      · exact .inl (List.mem_append_right _ m')⟩
    refine fi _ _ _ H' (hend A (sget_none o1 nA)) (.ptr A) st ?_
    rw [← hH]
    refine new_ok s0 n0 ⟨xs, upd_same, ?_⟩
    rw [hH]
    exact pr
end
end Dl

set_option Elab.async false
set_option linter.all false
set_option maxRecDepth 100000
set_option maxHeartbeats 4000000
namespace Dl
open PySem PySem.Spec PyProof.Rows L2
/-! ## o.get(k), k a pair: what lies there or None -/
section
variable {X : Cx} {R : Res} {τ : Sy} {pos : Pos}
def tTGet1 (K : PySem.W.Frag) (P : Program) (w : World) (td ty : TE) : TE := fun σ H Q => td σ H fun x H1 => (∃ a kvs xs ob, x = .ref a ∧ H1 a = some (DctO P w a xs ob) ∧ Paired (EntQ K H1) kvs xs) ∧ ty σ H1 fun y H2 => ∃ a kvs xs ob b k, x = .ref a ∧ H2 a = some (DctO P w a xs ob) ∧ Paired (EntQ K H2) kvs xs ∧ y = .ref b ∧ SqT K H2 b ((key2 k).map kV) ∧ Q (((kvs.lookup k).map dvOf).getD .non) H2
theorem pe_tget1 {o e : Expr} {apos cpos : Pos} {td ty : TE} (hu : X.A.units + 1 < cLine) (ho : PE X o td) (he : PE X e ty) (m : M1 X o "get" apos e cpos) : PE X (.Call (.Attribute o "get" apos) [e] [] cpos) (tTGet1 X.K X.prog X.w td ty) := by
  refine ⟨fun pins s σ H Q I h => ?_⟩
  refine wpAny_Call_method m.base m.few m.line PySem.F.plainAttrs_dict PySem.F.slot_dict_get PySem.F.type_dict_get (thn (ho.run pins s σ H _ I h) fun u s1 ⟨x, H1, I1, rx, ⟨a, kvs, xs, ob, ex, hh, r⟩, q1⟩ => ?_)
  subst ex
  obtain rfl : u = Value.ref a := rx
  obtain ⟨t1, t2⟩ := dct_typeIs I1 hh r
  refine ⟨t1, t2, ?_⟩
  rw [m.trees]
  refine Calls.callWith_builtin rfl (Calls.evalArgs_plain (Calls.spliced_cons (thn (he.run pins s1 σ H1 _ I1 q1) fun iv s2 ⟨y, H2, I2, ry, a', kvs2, xs2, ob2, b, k, ex, hh2, r2, ey, hb, q2⟩ => Calls.spliced_nil ?_)))
  cases ex
  subst ey
  obtain rfl : iv = Value.ref b := ry
  obtain ⟨dd, hs, _⟩ := dct_full I2 hh2 r2
  refine call_meetsIn PySem.F.slot_dict_get dd.typeIs PySem.F.entry_dict_get (PySem.F.args_dict_get_2 _ _) (meetsH_dict_get (TkK X.prog X.w) a b hs) ⟨tupleKind_room_in1 hu, key2 k, xs2, key_at I2 hb, dd, ?_⟩
  refine ⟨_, H2, I2.tok _, ?_, q2⟩
  cases e : kvs2.lookup k with
  | none => rw [(ent_at r2 k).2 e]; exact rfl
  | some d => obtain ⟨pr, h, _, rv⟩ := (ent_at r2 k).1 d e; rw [h]; exact rv
def vTGet1 (P : Program) (w : World) (τ : Sy) (t tk : TDE) : TDE := fun ρ q => t ρ fun d => ∃ a kvs, d = .ptr a ∧ sget τ a = some (.dct P w kvs) ∧ tk ρ fun kd => ∃ k, kd = pairD k ∧ q ((kvs.lookup k).getD .non)
theorem d_tget1 {o e : Expr} {apos cpos : Pos} {t tk : TDE} (P : Program) (w : World) (hP : X.prog = P) (hw : X.w = w) (S : DctAt X.K τ R) (hu : X.A.units + 1 < cLine) (ho : EE X R o t) (he : EE X R e tk) (m : M1 X o "get" apos e cpos := by exact ⟨rfl, rfl, rfl, rfl⟩) : EE X R (.Call (.Attribute o "get" apos) [e] [] cpos) (vTGet1 P w τ t tk) := by
  subst hP hw
  refine PE_imp (pe_tget1 hu ho he m) fun σ H Q ⟨ρ, q, r, o, w, fi⟩ => ⟨ρ, _, r, o, w, ?_⟩
  rintro d x H1 ⟨a, kvs, rfl, g, w1⟩ r1 e1 o1
  cases r1
  obtain ⟨xs, ob, hh, ra⟩ := S H1 o1 a _ _ _ g
  refine ⟨⟨a, kvs, xs, ob, rfl, hh, ra⟩, ρ, _, r.mono e1, o1, w1, ?_⟩
  rintro kd y H2 ⟨k, rfl, w2⟩ r2 e2 o2
  obtain ⟨b, rfl⟩ := pair_ref r2
  obtain ⟨xs2, ob2, hh2, ra2⟩ := S H2 o2 a _ _ _ g
  refine ⟨a, kvs, xs2, ob2, b, k, rfl, hh2, ra2, rfl, rep_key r2, ?_⟩
  refine fi _ _ H2 w2 ?_ (e1.trans e2) o2
  cases e : kvs.lookup k with
  | none => exact .non
  | some d => obtain ⟨_, _, fl, _⟩ := (ent_at ra2 k).1 d e; exact rep_dv fl
end
end Dl

set_option Elab.async false
set_option linter.all false
set_option maxRecDepth 100000
set_option maxHeartbeats 4000000
namespace Dl
open PySem PySem.Spec PyProof.Rows L2
/-! ## min(list of pairs, default=None) -/
def rMinDf (K : PySem.W.Frag) : List V → List V → Hp → VK → Prop := fun vs zs H Q => ∃ (a : Addr) (xs : List V) (p : List Addr) (ps : List (Int × Int)), vs = [.ref a] ∧ zs = [.non] ∧ H a = some (.lst xs) ∧ RepAll K p H xs (ps.map pairD) ∧ (ps = [] → Q .non H) ∧
  ∀ (i : Nat) (x : V) (m : Int × Int), xs[i]? = some x → ps[i]? = some m → (∀ m' ∈ ps, ltZ m' m = false) → Q x H
section
variable {X : Cx} {R : Res} {pos : Pos}
theorem cr_minDf (hc : X.calm = true) (hu : X.A.units + 64 < cLine) : CallRK X (.builtin "min") ["default"] (rMinDf X.K) := by
  intro pins s σ H vs zs us ws Q I r rz h
  obtain ⟨a, xs, p, ps, rfl, rfl, hs, ra, q0, q⟩ := h
  obtain ⟨its, rv, hl, _⟩ := I.list (SqL.of (K := X.K) hs)
  rw [Vals.ref1 r]
  obtain ⟨z, rfl⟩ : ∃ z, ws = [z] := by
    cases rz with
    | cons h t => cases t; exact ⟨_, rfl⟩
  have ez : RelV .non z := by cases rz with | cons h t => exact h
  obtain rfl : z = Value.none := ez
  obtain ⟨as, rd⟩ := pairs_reads I ra rv
  have rd' : ReadsAll s.heap its.toArray.toList (ps.map pairPy) as := by simpa using rd
  refine PySem.W.min_list_default (I.ok.hd hc) hl.isList rd' (alike_pairs ps) (by have := depth_pairs ps; omega) (fun e h' tk hk => ?_) fun y ys i v h' tk bs ey hv hr hk => ?_
  · have e : ps = [] := by simpa using e
    exact ⟨.non, H, I.kept hk, rfl, q0 e⟩
  · cases ps with
    | nil => cases ey
    | cons p0 ps0 =>
      rw [List.map_cons] at ey
      cases ey
      obtain ⟨m, e, hm, hle⟩ := minD_pairs ps0 p0
      rw [e] at hr
      have hv' : its[i]? = some v := by simpa using hv
      obtain ⟨x, hx, rx⟩ := Vals.back rv hv'
      obtain ⟨d, hd, rxd⟩ := ra.get' hx
      rw [List.getElem?_map] at hd
      obtain ⟨m2, hm2, rfl⟩ := Option.map_eq_some_iff.mp hd
      have em : m = m2 := by
        obtain ⟨a2, o, n, t1, t2, rfl, ho, hc', hdt⟩ := pair_at I rxd rx
        exact reads_pair (m := m.1) (n' := m.2) (hk _ _ ho) hdt rfl hr
      subst em
      exact ⟨x, H, I.kept hk, rx, q i x m hx hm2 hle⟩
def vMinDf (t : TDA) : TDE := fun ρ q => t ρ fun ds => ∃ (d : D) (ps : List (Int × Int)), ds = [d] ∧ lstOf d (ps.map pairD) ∧ (ps = [] → q .non) ∧ ∀ m ∈ ps, (∀ m' ∈ ps, ltZ m' m = false) → q (pairD m)
theorem d_minDf {p0 kp p1 : Pos} {k0 : Nat} {e : Expr} {t : TDA} (hc : X.calm = true) (hu : X.A.units + 64 < cLine) (hm : X.mg "min" = none) (ha : EA X R [e] t) (hg : Gl X "min" := by rfl)
    (hst : backTo pos (starEach [e] X.env) = (false, eval e X.env) :: backTo pos (starEach [] X.env) := by rfl) (hpl : (backTo pos (starEach [e] X.env)).any (·.1) = false := by rfl) :
    EE X R (.Call (.Name "min" p0) [e] [⟨some "default", .Constant .none k0 p1, kp⟩] pos) (vMinDf t) :=
  PE_imp (pe_callBK (cr_minDf hc hu) hg hm (by decide +kernel) ha (pk_cons (nm := some "default") (kpos := kp) pe_non pk_nil) (by decide) (by decide) hst hpl) fun σ H Q ⟨ρ, q, r, o, w, f⟩ => by
    refine ⟨ρ, _, r, o, w, ?_⟩
    rintro ds us H1 ⟨d, ps, rfl, hd, w0, w1⟩ r1 e1 o1
    obtain ⟨v, rfl, rv1⟩ := r1.one
    obtain ⟨a, vs, rfl, ha, ra⟩ := rep_lst rv1 hd
    refine ⟨a, vs, _, ps, rfl, rfl, ha, ra, fun e => f _ _ H1 (w0 e) .non e1 o1, fun i x m hx hm' hle => ?_⟩
    obtain ⟨v, hv, rv⟩ := ra.get (i := i) (d := pairD m) (by rw [List.getElem?_map, hm']; rfl)
    rw [hx] at hv
    cases hv
    exact f _ _ H1 (w1 m (List.mem_of_getElem? hm') hle) rv e1 o1
end
end Dl

set_option Elab.async false
set_option linter.all false
set_option maxRecDepth 100000
set_option maxHeartbeats 4000000
namespace Dl
open PySem PySem.Spec PyProof.Rows L2
/-! ## set(list of tuples of whole numbers), the list of any length, few of them different -/
theorem nodup_le {α : Type} [DecidableEq α] : ∀ {l U : List α}, l.Nodup → (∀ x ∈ l, x ∈ U) → l.length ≤ U.length
  | [], _, _, _ => Nat.zero_le _
  | x :: l, U, h, s => by
    have hx := s x List.mem_cons_self
    have h2 := nodup_le (U := U.erase x) (List.nodup_cons.mp h).2 fun y hy => (List.mem_erase_of_ne (fun (e : y = x) => (List.nodup_cons.mp h).1 (e ▸ hy))).mpr (s y (List.mem_cons_of_mem _ hy))
    have h3 := List.length_erase_of_mem hx
    have h4 := List.length_pos_of_mem hx
    rw [List.length_cons]
    omega
section
variable {P : Program} {w : World} {A : Around}
/-- the turns that are left: the set has what stood ahead of place i -/
theorem set_turns {I : Addr} {fp wr : List Addr} {G : Array GenState → Array GenState → Prop} {n : Nat} {Pv : Nat → Value → Prop} {St : Nat → Shared → Prop} {R : Result → Shared → Prop}
    (W : WalksS P w A.in1 I fp wr G n Pv St) {S : Addr} (hSf : S ∉ fp) {ks : List (Addr × List Int)} (hn : n = ks.length) {U : List (List Int)} (hU : U.length ≤ 62) (hks : ∀ p ∈ ks, p.2 ∈ U) (hval : ∀ i v, Pv i v → ∃ p, ks[i]? = some p ∧ v = .ref p.1)
    {h0 : Heap} (hk : ∀ p ∈ ks, IsT P w h0 p.2 p.1) (hS0 : h0.get? S = none) (hw0 : ∀ b ∈ wr, h0.get? b = none) (hu : A.in1.units < cLine) :
    ∀ (m i : Nat) (s : Shared), i + m = n → St i s → (∀ b o, h0.get? b = some o → s.heap.get? b = some o) → (∃ L es ep t, SetTR P w s.heap S L es ep t ∧ Got ks i L) →
      (∀ s' L es ep t, Moved (S :: wr) G s s' → SetTR P w s'.heap S L es ep t → Got ks n L → (∀ b o, h0.get? b = some o → s'.heap.get? b = some o) → R (.ok (.ret .none)) s') →
      codeAny (model P w) A (.builtin "set.update.loop" ⟨[.ref S, .ref I], []⟩) R s := by
  have nw : S ∉ wr := fun h => hSf (W.sub _ h)
  have old : ∀ {s s' : Shared}, Moved wr G s s' → (∀ b o, h0.get? b = some o → s.heap.get? b = some o) → ∀ b o, h0.get? b = some o → s'.heap.get? b = some o := fun mv k b o e => mv.heap b o (fun hb => by rw [hw0 b hb] at e; cases e) (k b o e)
  intro m
  induction m with
  | zero =>
    rintro i s e st k ⟨L, es, ep, t, hS, g⟩ fin
    obtain rfl : i = n := by omega
    refine codeAny_builtin F.entry_set_update_loop ?_
    rw [Around.under_plainId F.plain_set_update_loop _]
    show wpAny _ A.in1 (pyNext (.ref I) >>= _) _ _ s
    refine wpAny_bind (W.done s _ _ st fun s' mv => ?_)
    exact wpAny_pure (fin s' L es ep t (mv.mono fun b hb => List.mem_cons_of_mem _ hb) (hS.keep (fun o e => mv.heap S o nw e) fun p hp => isT_keep (hk p (List.mem_of_mem_take (g.sub p hp))) (old mv k)) g (old mv k))
  | succ m ih =>
    rintro i s e st k ⟨L, es, ep, t, hS, g⟩ fin
    refine codeAny_builtin F.entry_set_update_loop ?_
    rw [Around.under_plainId F.plain_set_update_loop _]
    show wpAny _ A.in1 (pyNext (.ref I) >>= _) _ _ s
    refine wpAny_bind (W.item i s _ _ (by omega) st fun v s1 hP st1 mv => ?_)
    obtain ⟨p, hp, rfl⟩ := hval i v hP
    have k1 := old mv k
    have mem : ∀ q ∈ L, q ∈ ks := fun q hq => List.mem_of_mem_take (g.sub q hq)
    have few : L.length ≤ 62 := by
      have := nodup_le (U := U) hS.nd fun x hx => by
        obtain ⟨q, hq, rfl⟩ := List.mem_map.mp hx
        exact hks q (mem q hq)
      rw [List.length_map] at this
      omega
    have hx : IsT P w s1.heap p.2 p.1 := isT_keep (hk p (List.mem_of_getElem? hp)) k1
    show wpAny _ A.in1 (holding [Value.ref p.1] (setAdd S (.ref p.1)) >>= _) _ _ s1
    refine wpAny_bind (wpAny_holding ?_)
    unfold setAdd
    refine wpAny_holding (wpAny_bind (wpAny_pyHash_tuple hu hx ?_))
    refine add_at (s := { s1 with toks := s1.toks + (p.2.length + 1) }) (hS.keep (fun o e => mv.heap S o nw e) fun q hq => isT_keep (hk q (mem q hq)) k1) hx hu (by omega) fun b h' L' es' ep' t' sb hS2 c1 c2 => ?_
    have k2 : ∀ b o, h0.get? b = some o → h'.get? b = some o := fun b o e => (sb.2 b (fun z => by rw [z, hS0] at e; cases e)).trans (k1 b o e)
    have g' : Got ks (i + 1) L' := (Classical.em (p.2 ∈ L.map (·.2))).elim (fun c => by rw [c1 c]; exact g.same hp c) fun c => g.more hp (c2 c)
    refine wpAny_pure ⟨plainId_quiet F.plain_set_update_loop _, ih (i + 1) _ (by omega) (W.frame _ s1 _ _ st1 (Nat.le_add_right _ _) fun b hb o e => ?_) k2 ⟨L', es', ep', t', hS2, g'⟩ fun s2 L2 es2 ep2 t2 mv2 hS3 g2 k3 => ?_⟩
    · exact (sb.2 b (fun h : b = S => hSf (h ▸ hb))).trans e
    · exact fin s2 L2 es2 ep2 t2 (Moved.trans W.gtrans ((mv.mono fun b hb => List.mem_cons_of_mem _ hb).then_heap (Nat.le_add_right _ _) fun b o hb e => (sb.2 b (fun h : b = S => hb (h ▸ List.mem_cons_self))).trans e) mv2) hS3 g2 k3
variable {s : Shared} {E : Value → Shared → Prop}
def setNew (w : World) : Obj := { cls := .type "set", dict := none, data := .set #[] 0 (.fresh 0 0 (!w.params.followText "set-order")) }
def itNew (l : Addr) : Obj := { cls := .type "list_iterator", data := .fields #[.ref l, .int 0 0] }
/-- set(xs), by what its loop comes to -/
theorem call_set_loop {l : Addr} {items : Array Value} {Z : Heap → Prop} {Q : Value → Shared → Prop} (hl : s.heap.IsList l items)
    (loop : ∀ R : Result → Shared → Prop, (∀ h' tk, Z h' → R (.ok (.ret .none)) { s with heap := h', toks := tk }) → codeAny (model P w) A.in1.in1 (.builtin "set.update.loop" ⟨[.ref s.heap.objs.size, .ref (s.heap.push (setNew w)).objs.size], []⟩) R { s with heap := (s.heap.push (setNew w)).push (itNew l) })
    (h : ∀ h' tk, Z h' → Q (.ref s.heap.objs.size) { s with heap := h', toks := tk }) : wpAny (model P w) A (call (.type "set") [.ref l]) Q E s := by
  obtain ⟨c, tl, hmro⟩ := F.called_set.mro
  have hmade := F.called_set.made
  have hsub := F.called_set.sub
  refine wpAny_call (codeAny_of_tree ?_)
  show wpAny _ _ (callAny (.type "set") _) _ _ _
  refine wpAny_pure ⟨Code.quiet_builtin _ (by decide +kernel), codeAny_builtin F.entry_type_call ?_⟩
  rw [Around.under_plain (weight_type_call_type "set" [.ref l] []) rfl]
  have h1 := F.called_set.notType
  have h2 := F.called_set.canCreate
  have hct := F.typeCall_set_1 (.ref l)
  repeat (any_goals (first | assumption | wp_step))
  have e0 : (s.heap.push (setNew w)).get? s.heap.objs.size = some (setNew w) := Heap.get?_push_size _ rfl
  refine codeAny_mono (code_set_led1 (.ref l) (E := E) (Q₁ := fun obj s1 => obj = .ref s.heap.objs.size ∧ s1 = { s with heap := s.heap.push (setNew w) }) ⟨rfl, rfl⟩) fun r s1 hr => ?_
  match r, hr with
  | .error e, hr => exact hr
  | .ok (.ret obj), hr =>
    obtain ⟨rfl, rfl⟩ := hr
    have hT : Shared.TypeIs { s with heap := s.heap.push (setNew w) } (.ref s.heap.objs.size) "set" := ⟨_, e0, rfl⟩
    have hli := F.called_set.init.lookup
    have hbi := F.called_set.init.bind (.ref s.heap.objs.size)
    repeat (any_goals (first | assumption | wp_step))
    refine codeAny_mono (codeAny_call_builtin (R := wants (fun r s2 => r = .none ∧ ∃ h' tk, s2 = { s with heap := h', toks := tk } ∧ Z h') E) F.called_set.init.plain F.entry_set_init (check_set_init_1 hT ?_)) fun r2 s2 hr2 => ?_
    · obtain ⟨⟨ocls, odict, odata, oslots⟩, hol, hcl, nl, hdl⟩ := hl
      simp only at hcl hdl
      subst hcl
      subst hdl
      have hl1 : (s.heap.push (setNew w)).IsList l items := ⟨_, Heap.get?_push_of_some _ hol, rfl, nl, rfl⟩
      have hsls := F.sub_list_set
      have hslf := F.sub_list_frozenset
      have hol' := Heap.get?_push_of_some (setNew w) hol
      have hne : (Value.type "list" == Value.type "dict") = false := by decide
      unfold Builtin.«set.__init__» noKeywords Builtin.Frozenset.updateFrom
      generalize hPI : pyIter = PI
      wp_walk
      subst hPI
      refine wpAny_pyIter_list hl1 ?_
      refine wpAny_bind (wpAny_runValue ?_)
      refine loop _ fun h' tk z => ?_
      show wpAny _ _ _ _ _ _
      refine wpAny_pure ?_
      show wpAny _ _ (ret Value.none) _ _ _
      exact wpAny_pure ⟨rfl, h', tk, rfl, z⟩
    · match r2, hr2 with
      | .error e, hr2 => exact hr2
      | .ok (.ret r), hr2 =>
        obtain ⟨rfl, h', tk, rfl, z⟩ := hr2
        repeat (any_goals (first | assumption | wp_step))
        exact h h' tk z
      | .ok .next, hr2 => exact hr2.elim
      | .ok .brk, hr2 => exact hr2.elim
      | .ok .cont, hr2 => exact hr2.elim
  | .ok .next, hr => exact hr.elim
  | .ok .brk, hr => exact hr.elim
  | .ok .cont, hr => exact hr.elim
end
end Dl

set_option Elab.async false
set_option linter.all false
set_option maxRecDepth 100000
set_option maxHeartbeats 4000000
namespace Dl
open PySem PySem.Spec PyProof.Rows L2
/-! ## sorted(set(list of pairs)) -/
def rSetL (K : PySem.W.Frag) (P : Program) (w : World) : List V → Hp → VK → Prop := fun xs H Q => ∃ (l : Addr) (ks : List (Addr × List Int)) (U : List (List Int)), xs = [V.ref l] ∧ SqL K H l (ks.map fun p => V.ref p.1) ∧ (∀ p ∈ ks, SqT K H p.1 (p.2.map V.int)) ∧ U.length ≤ 62 ∧ (∀ p ∈ ks, p.2 ∈ U) ∧
  ∀ a L, H a = none → (∀ p ∈ L, p ∈ ks) → (∀ p ∈ ks, p.2 ∈ L.map (·.2)) → Q (.ref a) (upd H a (SetTO P w a L))
section
variable {X : Cx} {R : Res} {pos : Pos}
theorem cr_setL (hc : X.calm = true) (hu : X.A.units + 64 < cLine) : CallR X (.type "set") (rSetL X.K X.prog X.w) := by
  intro pins s σ H xs us Q I r h
  obtain ⟨l, ks, U, rfl, hl, hk, hU, hks, q⟩ := h
  rw [Vals.ref1 r]
  obtain ⟨its, rv, pl, hz⟩ := I.list hl
  have hn : H s.heap.objs.size = none := I.hok.fresh (Nat.le_refl _)
  have hit : its = ks.map fun p => Value.ref p.1 := refs_of_vals rv
  have hisz : its.toArray.size = ks.length := by rw [List.size_toArray, hit, List.length_map]
  have hll : l < s.heap.objs.size := by
    obtain ⟨o, n, ho, _⟩ := pl
    exact Heap.lt_size ho
  have free : ∀ b, s.heap.objs.size ≤ b → s.heap.get? b = none := fun b hb => by
    cases q : s.heap.get? b with
    | none => rfl
    | some o => exact absurd (Heap.lt_size q) (Nat.not_lt.mpr hb)
  have sz1 : (s.heap.push (setNew X.w)).objs.size = s.heap.objs.size + 1 := Heap.size_push ..
  refine call_set_loop (P := X.prog) (w := X.w) (Z := fun h' => ∃ L es ep t, SetTR X.prog X.w h' s.heap.objs.size L es ep t ∧ Got ks ks.length L ∧ ∀ b o, s.heap.get? b = some o → h'.get? b = some o) pl.isList (fun R' fin => ?_) fun h' tk ⟨L, es, ep, t, S, g, k⟩ => ?_
  · have hl1 : (s.heap.push (setNew X.w)).IsList l its.toArray := pl.isList.push _
    refine set_turns (A := X.A.in1.in1) (n := its.toArray.size) ((Walks.list (by simp [I.ok.hd hc]) _ l (by rw [sz1]; exact Nat.ne_of_lt (Nat.lt_succ_of_lt hll)) its.toArray).toS) (S := s.heap.objs.size) (by rw [sz1]; simp only [List.mem_cons, List.not_mem_nil, or_false, not_or]; exact ⟨Nat.ne_of_lt (Nat.lt_succ_self _), Nat.ne_of_gt hll⟩) hisz hU hks (fun i v hv => ?_) (h0 := s.heap) (fun p hp => I.isT (hk p hp)) (free _ (Nat.le_refl _)) (fun b hb => free b (by rw [List.mem_singleton.mp hb, sz1]; exact Nat.le_succ _)) (by show X.A.units + 1 + 1 + 1 < cLine; omega) its.toArray.size 0 _ (by omega) ⟨⟨_, Heap.get?_push_size _ rfl, rfl, rfl⟩, hl1.push _⟩ (fun b o e => Heap.get?_push_of_some _ (Heap.get?_push_of_some _ e)) ⟨[], #[], 0, _, setTR_fresh (Heap.get?_push_of_some _ (Heap.get?_push_size _ rfl)), Got.zero ks⟩ fun s' L es ep t mv S g k => ?_
    · have q : its[i]? = some v := by simpa using hv
      rw [hit, List.getElem?_map] at q
      obtain ⟨p, hp, e⟩ := Option.map_eq_some_iff.mp q
      exact ⟨p, hp, e.symm⟩
    · obtain ⟨h', g2, d', tk', os'⟩ := s'
      obtain rfl : g2 = s.gens := mv.gens
      obtain rfl : d' = s.drawn := mv.drawn
      obtain rfl : os' = s.os := mv.os
      rw [hisz] at g
      exact fin h' tk' ⟨L, es, ep, t, S, g, k⟩
  · refine ⟨.ref s.heap.objs.size, upd H s.heap.objs.size (SetTO X.prog X.w s.heap.objs.size L), I.laid (t' := tk) k (Nat.le_refl _) (setTO_new S.t0), rfl, q _ L hn (fun p hp => ?_) fun p hp => ?_⟩
    · exact List.mem_of_mem_take (g.sub p hp)
    · exact g.all p (by rw [List.take_length]; exact hp)
theorem code2 (B x y : Int) : TS.code B [x, y] = x * B + y := by
  show x * B ^ 1 + (y * B ^ 0 + 0) = x * B + y
  rw [Int.pow_succ, Int.pow_zero, Int.one_mul, Int.mul_one, Int.add_zero]
theorem code_ltZ {a b : Int × Int} (h : TS.code 100000 [a.1, a.2] ≤ TS.code 100000 [b.1, b.2]) (ne : a ≠ b) (ha : 0 ≤ a.2 ∧ a.2 < 100000) (hb : 0 ≤ b.2 ∧ b.2 < 100000) : ltZ a b = true := by
  rw [code2, code2] at h
  unfold ltZ
  refine decide_eq_true ?_
  by_cases e : a.1 = b.1
  · refine .inr ⟨e, ?_⟩
    have : a.2 ≠ b.2 := fun e2 => ne (Prod.ext e e2)
    omega
  · left
    omega
/-- the list's pairs, by their addresses -/
theorem pairs_at {K : PySem.W.Frag} {p : List Addr} {H : Hp} : ∀ {ps : List (Int × Int)} {vs : List V}, RepAll K p H vs (ps.map pairD) → ∃ ks : List (Addr × List Int), vs = ks.map (fun q => V.ref q.1) ∧ (∀ q ∈ ks, ∃ a ∈ ps, q.2 = [a.1, a.2] ∧ Rep K p H (.ref q.1) (pairD a)) ∧ ∀ a ∈ ps, ∃ q ∈ ks, q.2 = [a.1, a.2]
  | [], _, r => by cases r; exact ⟨[], rfl, fun q m => (by cases m), fun a m => (by cases m)⟩
  | a :: ps, _, r => by
    cases r with
    | cons r1 r2 =>
      obtain ⟨ks, rfl, h1, h2⟩ := pairs_at r2
      obtain ⟨b, rfl⟩ := pair_ref r1
      refine ⟨(b, [a.1, a.2]) :: ks, rfl, fun q m => ?_, fun c m => ?_⟩
      · rcases List.mem_cons.mp m with rfl | m
        · exact ⟨a, List.mem_cons_self, rfl, r1⟩
        · obtain ⟨c, hc, e⟩ := h1 q m
          exact ⟨c, List.mem_cons_of_mem _ hc, e⟩
      · rcases List.mem_cons.mp m with rfl | m
        · exact ⟨_, List.mem_cons_self, rfl⟩
        · obtain ⟨q, hq, e⟩ := h2 c m
          exact ⟨q, List.mem_cons_of_mem _ hq, e⟩
def fstI (ns : List Int) : Int × Int := (ns.getD 0 0, ns.getD 1 0)
theorem rep_rows {K : PySem.W.Frag} {p : List Addr} {H : Hp} : ∀ {L : List (Addr × List Int)}, (∀ q ∈ L, Rep K p H (.ref q.1) (pairD (fstI q.2))) → RepAll K p H (L.map fun q => V.ref q.1) ((L.map fun q => fstI q.2).map pairD)
  | [], _ => .nil
  | q :: L, h => .cons (h q List.mem_cons_self) (rep_rows fun r m => h r (List.mem_cons_of_mem _ m))
def vSortSet (ta : TDA) : TDE := fun ρ q => ta ρ fun ds => ∃ (d : D) (ps : List (Int × Int)) (U : List (Int × Int)), ds = [d] ∧ lstOf d (ps.map pairD) ∧ (∀ a ∈ ps, (0 ≤ a.1 ∧ a.1 < 100000) ∧ 0 ≤ a.2 ∧ a.2 < 100000) ∧ U.length ≤ 62 ∧ (∀ a ∈ ps, a ∈ U) ∧ ∀ qs : List (Int × Int), qs.Pairwise (fun a b => ltZ a b = true) → (∀ a, a ∈ qs ↔ a ∈ ps) → q (.seq (qs.map pairD))
theorem d_sortSet {e : Expr} {p0 p1 p2 : Pos} {ta : TDA} (hc : X.calm = true) (hu : X.A.units + 64 < cLine) (hm : X.mg "sorted" = none) (hm2 : X.mg "set" = none) (ha : EA X R [e] ta) (hg : Gl X "sorted" := by rfl) (hg2 : Gl X "set" := by rfl)
    (he : starEach [.Call (.Name "set" p0) [e] [] p1] X.env = (false, eval (.Call (.Name "set" p0) [e] [] p1) X.env) :: starEach [] X.env := by rfl) (hpl : (backTo pos (starEach [] X.env)).any (·.1) = false := by rfl)
    (he2 : starEach [e] X.env = (false, eval e X.env) :: starEach [] X.env := by rfl) (hpl2 : (backTo p1 (starEach [] X.env)).any (·.1) = false := by rfl) :
    EE X R (.Call (.Name "sorted" p2) [.Call (.Name "set" p0) [e] [] p1] [] pos) (vSortSet ta) :=
  PE_imp (pe_callB (cr_sortedT hc) hg hm (by decide +kernel) (pa_cons (pe_callTy (cr_setL hc hu) hg2 hm2 (by decide +kernel) ha (by decide) (by decide) he2 hpl2) pa_nil he) (by decide) (by decide) he hpl) fun σ H Q ⟨ρ, q, r, o, w, f⟩ => by
    refine ⟨ρ, _, r, o, w, ?_⟩
    rintro ds us H1 ⟨d, ps, U, rfl, hd, bd, hU, hin, w1⟩ r1 e1 o1
    obtain ⟨v, rfl, rv⟩ := r1.one
    obtain ⟨l, vs, rfl, hl, ra⟩ := rep_lst rv hd
    obtain ⟨ks, rfl, k1, k2⟩ := pairs_at ra
    have sq : ∀ p ∈ ks, SqT X.K H1 p.1 (p.2.map V.int) := fun p hp => by
      obtain ⟨a, _, e, rp⟩ := k1 p hp
      rw [e]
      exact rep_key rp
    refine ⟨l, ks, U.map fun a => [a.1, a.2], rfl, .of hl, sq, by rw [List.length_map]; exact hU, fun p hp => ?_, fun a L nA hL1 hL2 => ?_⟩
    · obtain ⟨c, hc, e, _⟩ := k1 p hp
      exact List.mem_map.mpr ⟨c, hin c hc, e.symm⟩
    · have eA : Ext R.p H1 (upd H1 a (SetTO X.prog X.w a L)) := Ext.new nA
      have sqA : ∀ p ∈ ks, SqT X.K (upd H1 a (SetTO X.prog X.w a L)) p.1 (p.2.map V.int) := fun p hp => by
        obtain ⟨a, _, e, rp⟩ := k1 p hp
        rw [e]
        exact rep_key (Rep.mono rp eA)
      refine ⟨a, L, 2, 100000, rfl, upd_same, fun p hp => sqA p (hL1 p hp), by decide, fun p hp => ?_, fun L' g pm nd few pw nG => ?_⟩
      · obtain ⟨c, hc, e, _⟩ := k1 p (hL1 p hp)
        rw [e]
        obtain ⟨b1, b2⟩ := bd c hc
        refine ⟨rfl, fun m hm => ?_⟩
        simp only [List.mem_cons, List.not_mem_nil, or_false] at hm
        rcases hm with rfl | rfl
        · exact b1
        · exact b2
      · have inn : ∀ p ∈ L', ∃ c ∈ ps, p.2 = [c.1, c.2] ∧ Rep X.K R.av H1 (.ref p.1) (pairD c) := fun p hp => k1 p (hL1 p (pm.mem_iff.mp hp))
        have eG : Ext R.p H1 (upd (upd H1 a (SetTO X.prog X.w a L)) g (.lst (L'.map fun q => V.ref q.1))) := eA.trans (Ext.new nG)
        refine f _ _ _ (w1 (L'.map fun q => fstI q.2) ?_ fun c => ⟨fun m => ?_, fun m => ?_⟩) (.seq upd_same (Pot.nin (o1.new nA) nG) (rep_rows fun p hp => ?_)) (e1.trans eG) ((o1.new nA).new nG)
        · rw [List.pairwise_map]
          have nd' : L'.Pairwise fun q r => q.2 ≠ r.2 := List.pairwise_map.mp nd
          refine (pw.and nd').imp_of_mem fun {q r} hq hr ⟨h1, h2⟩ => ?_
          obtain ⟨c, hc, ec, _⟩ := inn q hq
          obtain ⟨c', hc', ec', _⟩ := inn r hr
          rw [ec, ec'] at h1 h2 ⊢
          exact code_ltZ h1 (fun (e : c = c') => h2 (e ▸ rfl)) (bd c hc).2 (bd c' hc').2
        · obtain ⟨p, hp, rfl⟩ := List.mem_map.mp m
          obtain ⟨c, hc, ec, _⟩ := inn p hp
          rw [ec]
          exact hc
        · obtain ⟨q, hq, eq⟩ := k2 c m
          obtain ⟨q', hq', e'⟩ := List.mem_map.mp (hL2 q hq)
          exact List.mem_map.mpr ⟨q', pm.mem_iff.mpr hq', by rw [e', eq]; rfl⟩
        · obtain ⟨c, hc, ec, rp⟩ := inn p hp
          rw [ec]
          exact Rep.mono rp eG
end
end Dl

set_option Elab.async false
set_option linter.all false
set_option maxRecDepth 100000
set_option maxHeartbeats 4000000
namespace Dl
open PySem PySem.Spec PyProof.Rows L2
/-! ## [elt for x, y in iter], the items tuples of two -/
section
variable {X : Cx} {R : Res} {pos : Pos}
def vLcU (i k : Nat) (w : TDI) (te : TDE) : TDE := fun ρ q => w ρ fun ds => ds.length ≤ sizeLine ∧ ∃ Pj : Nat → D → Prop, (∀ j d, ds[j]? = some d → ∃ a b, d = .tup [a, b] ∧ te ((ρ.set i (some a)).set k (some b)) (Pj j)) ∧ ∀ es, es.length = ds.length → (∀ (j : Nat) (e : D), es[j]? = some e → Pj j e) → q (.seq es)
theorem lcU_ok {K : PySem.W.Frag} {i k : Nat} {w : TDI} {te : TDE} (hik : i ≠ k) : ∀ σ H Q, tD K R (vLcU i k w te) σ H Q → tLc (tDIP K R w) (gTup K 2 (gCons (gName i) (gCons (gName k) gNil))) tYes (tEl K R te) [i, k] σ H Q := by
  rintro σ H Q ⟨ρ, q, r, o, w0, f⟩
  refine ⟨ρ, _, r, o, w0, ?_⟩
  rintro ds J H1 ⟨hz, Pj, hstep, hend⟩ ⟨G, Y, wk, gs, ys⟩ e1 o1 A nA
  have eA : Ext R.p H1 (upd H1 A (.lst [])) := Ext.new nA
  have rS : REnv K (R.add A).av (upd H1 A (.lst [])) σ ρ := ((r.mono e1).strong nA).mono0 (Ext.new nA)
  have nAp : A ∉ R.p := fun m => (Pot.nin (R := R) o1 nA) (List.mem_append_left _ m)
  refine lc_it wk (fun j H' => j ≤ ds.length ∧ Ext R.p H1 H' ∧ Pot R H' ∧ ∃ acc es, H' A = some (.lst acc) ∧ RepAll K (R.add A).av H' acc es ∧ es.length = j ∧ (∀ (k : Nat) (e : D), es[k]? = some e → Pj k e) ∧ REnv K (R.add A).av H' σ ρ)
    ⟨Nat.zero_le _, eA, o1.new nA, [], [], upd_same, .nil, rfl, fun k e h => by simp at h, rS⟩ (fun j H' _ ⟨_, e2, _⟩ => gs H' e2) ?_ ?_
  · rintro j x H' H'' hj ⟨_, e2, o2, acc, es, hA, rc, hl, hP, re⟩ hy
    obtain ⟨rfl, d, hd, rd⟩ := ys j H' x H'' hj e2 hy
    obtain ⟨da, db, rfl, hte⟩ := hstep j d hd
    cases rd with
    | @tup T us _ hT ra =>
    cases ra with
    | @cons u _ _ _ ru ra =>
    cases ra with
    | @cons v _ _ _ rv ra =>
    cases ra
    have oA : Pot (R.add A) H'' := Pot.add o2 nAp (by rw [hA]; exact fun z => nomatch z)
    refine ⟨T, [u, v], rfl, (SqTp.mono (Ext.av e2) hT).sq, rfl, u, [v], rfl, v, [], rfl, rfl, ?_⟩
    have hset : ((wipe σ [i, k]).set i (some u)).set k (some v) = (σ.set i (some u)).set k (some v) := by
      show ((((σ.set k none).set i none).set i (some u)).set k (some v)) = _
      rw [List.set_set, List.set_comm _ _ (Ne.symm hik), List.set_set]
    refine ⟨?_, ?_⟩
    · rw [hset]
      show ((((σ.set i (some u)).set k (some v)).set k none).set i none) = (σ.set k none).set i none
      rw [List.set_set, List.set_comm _ _ (Ne.symm hik), List.set_set, List.set_comm _ _ hik]
    dsimp only [tYes]
    rw [if_pos rfl]
    have up : ∀ {x : V} {d : D}, Rep K R.av H1 x d → Rep K (R.add A).av H'' x d := fun rd => Rep.mono0 (p := (R.add A).av) (fun b u nb hb => e2 b u (fun m => nb (List.mem_append_left _ m)) hb) (rd.strong nA)
    refine ⟨A, (ρ.set i (some da)).set k (some db), Pj j, ?_, oA, hte, ?_⟩
    · rw [hset]
      exact (re.set (up ru) i).set (up rv) k
    · rintro e' y H4 we ry e4 o4
      have h4 : H4 A = some (.lst acc) := e4 A _ nAp hA
      refine ⟨acc, h4, ?_, hj, ?_, ?_, acc ++ [y], es ++ [e'], upd_same, ?_, by rw [List.length_append, hl]; rfl, ?_, ?_⟩
      · have := rc.length
        omega
      · intro b u' nb hb
        rw [upd_ne (ne_of_none hb nA)]
        exact e4 b u' nb (e2 b u' nb hb)
      · refine Pot.mix o1 (fun b u' nb hb => ?_) (Pot.of_add o4) (fun b m => upd_ne (fun e => nAp (e ▸ m)))
        rw [upd_ne (ne_of_none hb nA)]
        exact e4 b u' nb (e2 b u' nb hb)
      · exact ((rc.mono (R := R.add A) e4).append (.cons ry .nil)).mono0 (Ext.put Res.add_mem)
      · intro k' e2' hk
        by_cases hkl : k' < es.length
        · rw [List.getElem?_append_left hkl] at hk
          exact hP k' e2' hk
        · rw [List.getElem?_append_right (by omega)] at hk
          have hk0 : k' - es.length = 0 := by
            by_cases h0 : k' - es.length = 0
            · exact h0
            · rw [List.getElem?_eq_none (by simp; omega)] at hk; cases hk
          rw [hk0] at hk
          have : e' = e2' := by simpa using hk
          subst this
          have : k' = j := by omega
          subst this
          exact we
      · exact (re.mono (R := R.add A) e4).mono0 (Ext.put Res.add_mem)
  · rintro H' ⟨_, e2, o2, acc, es, hA, rc, hl, hP, re⟩
    exact f _ _ H' (hend es hl hP) (.seq hA (Pot.nin (R := R) o1 nA) (RepAll.weak (fun b hb => Res.add_av hb) rc)) (e1.trans e2) o2
theorem d_lcU {i k kk : Nat} {x y : Str} {px py tpos : Pos} {elt iter : Expr} {scope : Scope} {w : TDI} {te : TDE} (hc : X.calm = true) (nd : X.N.Nodup) (hi : EIP X R (.Tuple [.Name x px, .Name y py] kk tpos) iter w) (ok : BlkOk X.N X.env.scope scope [(x, i), (y, k)]) (hik : i ≠ k)
    (hg : ∀ (s : Shared) (H : Hp) (C : Addr) (cl : List (Str × Addr)) (fp : List Addr), PG (X.blk s H scope (compEnvC scope cl C X.env) fp) (.Tuple [.Name x px, .Name y py] kk tpos) (gTup X.K 2 (gCons (gName i) (gCons (gName k) gNil))))
    (he : ∀ (s : Shared) (H : Hp) (C : Addr) (cl : List (Str × Addr)) (fp : List Addr) (A : Addr), EE (X.blk s H scope (compEnvC scope cl C X.env) fp) (R.add A) elt te) (hs : ∀ x, foldedSetIterable iter X.env x = pure x := by intro _; rfl) :
    EE X R (.ListComp elt [⟨.Tuple [.Name x px, .Name y py] kk tpos, iter, [], 0⟩] scope pos) (vLcU i k w te) :=
  PE_imp (pe_lc (own := [(x, i), (y, k)]) (g := gTup X.K 2 (gCons (gName i) (gCons (gName k) gNil))) (tt := tYes) (te := tEl X.K R te) hc nd hi ok hg (fun _ _ _ _ _ => pts_nil) (fun s H C cl fp => ⟨fun pins s' σ H' Q I ⟨A, w⟩ => (he s H C cl fp A).run pins s' σ H' Q I w⟩) hs) (lcU_ok hik)
end
end Dl

set_option Elab.async false
set_option linter.all false
set_option maxRecDepth 100000
set_option maxHeartbeats 4000000
namespace Dl
open PySem PySem.Spec PyProof.Rows L2
/-! ## sorted(list of rows): a new list of the state, its rows in order -/
def rSortO (K : PySem.W.Frag) : List V → Hp → VK → Prop := fun xs H Q => ∃ (a : Addr) (p : List Addr) (vs : List V) (ds : List D), xs = [.ref a] ∧ H a = some (.lst vs) ∧ RepAll K p H vs ds ∧ (∀ d ∈ ds, rowOk d) ∧ (∀ d ∈ ds, ∀ e ∈ ds, PySem.W.alike d.py e.py = true) ∧
  ∀ l ws es, H l = none → es.Perm ds → es.Pairwise (fun d e => PySem.W.dataLt e.py d.py = false) → RepAll K p H ws es → Q (.ref l) (upd H l (.lst ws))
section
variable {X : Cx} {R0 : Res} {h0 : ∀ H, R0.Ss H} {W : WX} {pos : Pos}
theorem le_trans' {β : Type} (k : β → PyData) : ∀ a b c : β, PySem.W.dataLe false k a b = true → PySem.W.dataLe false k b c = true → PySem.W.dataLe false k a c = true := fun a b c h1 h2 => by
  rw [PySem.W.dataLe_eq] at h1 h2 ⊢
  simp only [cond_false, Bool.not_eq_true'] at h1 h2 ⊢
  cases e : PySem.W.dataLt (k c) (k a) with
  | false => rfl
  | true =>
    rcases lex_negTrans (O := PyProof.Rows.itemOrd) _ (PySem.W.keyToks (k b)) _ e with h | h
    · exact (Bool.false_ne_true (h2.symm.trans h)).elim
    · exact (Bool.false_ne_true (h1.symm.trans h)).elim
theorem le_total' {β : Type} (k : β → PyData) : ∀ a b : β, (PySem.W.dataLe false k a b || PySem.W.dataLe false k b a) = true := fun a b => by
  rw [PySem.W.dataLe_eq]
  simp only [cond_false]
  cases e : PySem.W.dataLt (k b) (k a) with
  | false => rfl
  | true =>
    cases e2 : PySem.W.dataLt (k a) (k b) with
    | false => rfl
    | true =>
      have := lex_trans (O := PyProof.Rows.itemOrd) _ _ _ e e2
      rw [lex_irrefl] at this
      cases this
theorem cr_sortO (hu : X.A.units + 64 < cLine) : CallR X (.builtin "sorted") (rSortO X.K) := by
  intro pins s σ H xs us Q I r q
  obtain ⟨a, p, vs, ds, rfl, ha, ra, rk, al, q⟩ := q
  rw [Vals.ref1 r]
  obtain ⟨its, rv, hl, hz⟩ := I.list (SqL.of (K := X.K) ha)
  obtain ⟨e1, e2⟩ := each_row I ra rv rk
  have hsnd : (vs.zip ds).map Prod.snd = ds := zip_snd ra.length
  have mem : ∀ b ∈ vs.zip ds, b.2 ∈ ds := fun b hb => by
    rw [← hsnd]
    exact List.mem_map.mpr ⟨b, hb, rfl⟩
  refine PySem.W.sorted_data (enc := fun b : V × D => b.2.py) hl.isList e1 e2 (fun d hd d' hd' => ?_) (.inl fun d hd => ?_) ?_ (fun b hb => ?_) fun out ho eo => ?_
  · obtain ⟨b, hb, rfl⟩ := List.mem_map.mp hd
    obtain ⟨b', hb', rfl⟩ := List.mem_map.mp hd'
    exact al _ (mem b hb) _ (mem b' hb')
  · obtain ⟨b, hb, rfl⟩ := List.mem_map.mp hd
    exact (rk _ (mem b hb)).2.2
  · have := hz
    rw [List.length_zip, ra.length, Nat.min_self, ← ra.length]
    exact this
  · have := (rk _ (mem b hb)).2.1
    omega
  · obtain ⟨q1, q2⟩ := each_out eo
    have hp : ((vs.zip ds).mergeSort (PySem.W.dataLe false fun b : V × D => b.2.py)).Perm (vs.zip ds) := List.mergeSort_perm _ _
    have hpw := List.pairwise_mergeSort (le := PySem.W.dataLe false fun b : V × D => b.2.py) (le_trans' _) (le_total' _) (vs.zip ds)
    obtain ⟨e, he⟩ := sortedAll_at s.heap its (List.toArray out)
    have hlen : s.heap.objs.size ≤ s.heap.objs.size + 1 := by omega
    refine ⟨.ref (s.heap.objs.size + 1), upd H (s.heap.objs.size + 1) (.lst (((vs.zip ds).mergeSort (PySem.W.dataLe false fun b : V × D => b.2.py)).map (·.1))), I.laid (t' := s.toks) (fun b u e => sortedAll_old e) hlen ⟨?_, out, e, q1, he⟩, rfl, q _ _ _ (I.hok.fresh hlen) ?_ ?_ q2⟩
    · have l1 := q1.length
      rw [l1, ho, List.length_zip, ra.length, Nat.min_self, ← ra.length]
      exact hz
    · have := hp.map Prod.snd
      rw [hsnd] at this
      exact this
    · rw [List.pairwise_map]
      refine hpw.imp fun {a b} h => ?_
      rw [PySem.W.dataLe_eq] at h
      simpa using h
def cSortO (t : TDYA) : TDY Sy := fun τ ρ q x => t τ ρ (fun τ1 ds => ∃ (d : D) (xs : List D), ds = [d] ∧ lstOf d xs ∧ (∀ d ∈ xs, rowOk d) ∧ (∀ d ∈ xs, ∀ e ∈ xs, PySem.W.alike d.py e.py = true) ∧ ∀ a ys, ys.Perm xs → ys.Pairwise (fun d e => PySem.W.dataLt e.py d.py = false) → sget τ1 a = none → q ((a, .lst ys) :: τ1) (.ptr a)) x
theorem c_sortO {e : Expr} {p0 : Pos} {t : TDYA} (hm : X.mg "sorted" = none) (hu : X.A.units + 64 < cLine) (ha : YA X (SF X.K R0 h0) W [e] t) (hg : Gl X "sorted" := by rfl) (he : starEach [e] X.env = (false, eval e X.env) :: starEach [] X.env := by rfl) (hpl : (backTo pos (starEach [] X.env)).any (·.1) = false := by rfl) :
    YC X (SF X.K R0 h0) W (.Call (.Name "sorted" p0) [e] [] pos) (cSortO t) :=
  PE_imp (pe_callB (cr_sortO hu) hg hm (by decide +kernel) ha (by decide) (by decide) he hpl) fun σ H Q ⟨τ, ρ, q, x, r, s, w, f, g⟩ => ⟨τ, ρ, _, x, r, s, w, fun τ1 ds vs H1 w1 r1 e1 s1 => by
    obtain ⟨d, xs, rfl, hd, rk, al, w2⟩ := w1
    obtain ⟨y, rfl, rx⟩ := r1.one
    obtain ⟨a, us, rfl, ha', ra⟩ := rep_lst rx hd
    refine ⟨a, _, us, xs, rfl, ha', ra, rk, al, fun l ws es n hp pw re => ?_⟩
    have st : Step (SF X.K R0 h0) τ1 H1 ((l, .lst es) :: τ1) (upd H1 l (.lst ws)) := new_step n
    exact f _ _ _ _ (w2 l es hp pw (sget_none s1 n)) (.ptr l) (e1.trans st) (new_ok s1 n ⟨ws, upd_same, RepAll.of (fun _ _ rr => Rep.step st rr) re⟩), g⟩
end
theorem row_lt {a b c d : Int} {r t : List D} (ne : (a, b) ≠ (c, d)) : PySem.W.dataLt (D.tup (.int a :: .int b :: r)).py (D.tup (.int c :: .int d :: t)).py = ltZ (a, b) (c, d) := by
  show PySem.W.dataLt (.tuple (.int a :: .int b :: D.pys r)) (.tuple (.int c :: .int d :: D.pys t)) = _
  rw [PySem.W.dataLt_tuple, PySem.W.dataLt_cons (by simp [PySem.W.alike]), PySem.W.dataLt_cons (by simp [PySem.W.alike]), PySem.W.dataLt_int, PySem.W.dataLt_int]
  simp only [PyData.eqv, beq_iff_eq]
  unfold ltZ
  by_cases e1 : a = c
  · by_cases e2 : b = d
    · exact absurd (by rw [e1, e2]) ne
    · simp [e1, e2]
  · simp [e1]
end Dl

set_option Elab.async false
set_option linter.all false
set_option maxRecDepth 100000
set_option maxHeartbeats 4000000
namespace Dl
open PySem PySem.Spec PyProof.Rows L2
/-! ## x.pop(k) of a list of the state -/
theorem rep_erase {K : PySem.W.Frag} {p : List Addr} {H : Hp} : ∀ {vs : List V} {ds : List D}, RepAll K p H vs ds → ∀ j : Nat, RepAll K p H (vs.eraseIdx j) (ds.eraseIdx j)
  | _, _, .nil, _ => .nil
  | _, _, .cons r t, 0 => t
  | _, _, .cons r t, j + 1 => .cons r (rep_erase t j)
section
variable {X : Cx} {R0 : Res} {h0 : ∀ H, R0.Ss H} {W : WX} {pos : Pos}
def cPopK (to tk : Sy → TDE) : TDY Sy := fun τ ρ q x => to τ ρ fun od => ∃ l xs, od = .ptr l ∧ sget τ l = some (.lst xs) ∧ tk τ ρ fun kd => ∃ (j : Nat) (d : D), kd = .int (j : Int) ∧ xs[j]? = some d ∧ j < 1000000 ∧ q ((l, .lst (xs.eraseIdx j)) :: τ) d
theorem c_popK {o e : Expr} {apos : Pos} {to tk : Sy → TDE} (ho : ∀ τ, EE X ((SF X.K R0 h0).at τ) o (to τ)) (hk : ∀ τ, EE X ((SF X.K R0 h0).at τ) e (tk τ)) (hbase : attributeBase o "pop" X.env (eval o X.env) = eval o X.env := by rfl)
    (hfew : ((backTo pos (starEach [e] X.env)).all (fun x => !x.1) && (backToKw pos (keywordEach [] X.env)).all (fun x => x.1.isSome) && decide ([e].length + ([] : List Keyword).length + (if ([] : List Keyword).isEmpty then 0 else 1) < 30)) = true := by rfl)
    (hline : (apos.endLine == pos.line) = true := by rfl) (hs : starEach [e] X.env = (false, eval e X.env) :: starEach [] X.env := by rfl) (hpl : (backTo pos (starEach [] X.env)).any (·.1) = false := by rfl) : YC X (SF X.K R0 h0) W (.Call (.Attribute o "pop" apos) [e] [] pos) (cPopK to tk) :=
  PE_imp (pe_bm PySem.F.plainAttrs_list PySem.F.slot_list_pop PySem.F.type_list_pop mt_popAt (y_all ho) (pa_cons (y_all hk) pa_nil hs) hbase hfew hline hs hpl) fun σ H Q ⟨τ, ρ, q, x, r, s, w, f, g⟩ => by
    refine ⟨τ, ρ, _, r, s, w, ?_⟩
    rintro od v H1 ⟨l, xs, rfl, g0, w1⟩ r1 e1 s1
    cases r1
    have st1 : Step (SF X.K R0 h0) τ H τ H1 := .ext e1
    refine ⟨lst_ty symAt s1 g0, ?_⟩
    refine ⟨τ, ρ, _, r.step st1, s1, w1, ?_⟩
    rintro kd z H2 ⟨j, d, rfl, hd, hj, w2⟩ r2 e2 s2
    cases r2
    have st2 : Step (SF X.K R0 h0) τ H1 τ H2 := .ext e2
    obtain ⟨vs, hh, ra⟩ := symAt H2 s2 l _ g0
    obtain ⟨y, hy, ry⟩ := ra.get hd
    have hlt : j < vs.length := (List.getElem?_eq_some_iff.mp hy).1
    have st : Step (SF X.K R0 h0) τ H2 ((l, .lst (xs.eraseIdx j)) :: τ) (upd H2 l (.lst (vs.eraseIdx j))) := set_step g0
    have hq : seqIndex? (j : Int) vs.length = some j := by
      unfold seqIndex?
      simp
      omega
    refine ⟨l, vs, (j : Int), j, y, rfl, rfl, hh, by omega, by omega, hq, hy, ?_⟩
    exact f _ _ _ _ w2 (Rep.step st ry) ((st1.trans st2).trans st) (set_ok s2 g0 ⟨_, upd_same, RepAll.step st (rep_erase ra j)⟩)
end
end Dl

set_option Elab.async false
set_option linter.all false
set_option maxRecDepth 100000
set_option maxHeartbeats 4000000
namespace K36
open PySem PySem.Spec PyProof.Rows L2 Dl
def top (i : Nat) : Stmt := PySem.Challenge.pw_gapfill_k36_where_books_part.main.body.getD i (.Pass ⟨0, 0, 0, 0⟩)
def meth (i j : Nat) : Stmt := match top i with
  | .ClassDef (body := b) .. => b.getD j (.Pass ⟨0, 0, 0, 0⟩)
  | _ => .Pass ⟨0, 0, 0, 0⟩
abbrev s_is_whole : Stmt := top 8
abbrev s_is_truth : Stmt := top 9
abbrev s_is_text : Stmt := top 10
abbrev s_is_placed : Stmt := top 12
abbrev s_is_word : Stmt := top 13
abbrev s_is_heard : Stmt := top 14
abbrev s_need_rising : Stmt := top 15
abbrev s_parted : Stmt := top 16
abbrev s_law_cell : Stmt := top 18
abbrev s_law_pot : Stmt := top 19
abbrev s_law_pull : Stmt := top 20
abbrev s_law_phrase : Stmt := top 21
abbrev s_law_told_rows : Stmt := top 22
abbrev s_law_heard_rows : Stmt := top 23
abbrev s_law_parting : Stmt := top 24
abbrev s_law_one_right : Stmt := top 25
abbrev s_law_right : Stmt := top 26
abbrev s_law : Stmt := top 27
abbrev s_NoRows___init__ : Stmt := meth 6 0
structure Txt (K : PySem.W.Frag) (mg : Str → Option Value) : Prop where
  n_type : mg "type" = none
  n_int : mg "int" = none
  n_bool : mg "bool" = none
  n_str : mg "str" = none
  n_tuple : mg "tuple" = none
  n_len : mg "len" = none
  n_all : mg "all" = none
  n_isinstance : mg "isinstance" = none
  n_abs : mg "abs" = none
  n_divmod : mg "divmod" = none
  n_list : mg "list" = none
  n_min : mg "min" = none
  n_max : mg "max" = none
  n_range : mg "range" = none
  n_repr : mg "repr" = none
  n_enumerate : mg "enumerate" = none
  n_sorted : mg "sorted" = none
  n_set : mg "set" = none
  n_dict : mg "dict" = none
  c_MOST_SIGNS : GInt mg "MOST_SIGNS" 20
  c_MOST_NUMBER : GInt mg "MOST_NUMBER" 9999
  c_MOST_ROUND : GInt mg "MOST_ROUND" 999
  c_TEXT_SIGNS : GStr mg "TEXT_SIGNS" "abcdefghijklmnopqrstuvwxyz0123456789 "
section
variable {P : Program} {w : World} {K : PySem.W.Frag} {mg : Str → Option Value} {base : Heap}
/-! ### data that the program may be handed -/
def okD (d : D) : Prop := d.plain = true ∧ d.sz ≤ 1000000
theorem okD.obj {d : D} (h : okD d) : isObjD d = true := by
  cases d <;> first | rfl | (have := h.1; simp only [D.plain] at this; cases this)
theorem plains_mem : ∀ {ds : List D} {d : D}, D.plains ds = true → d ∈ ds → d.plain = true
  | d :: ds, e, h, m => by
    simp only [D.plains, Bool.and_eq_true] at h
    rcases List.mem_cons.mp m with rfl | m
    · exact h.1
    · exact plains_mem h.2 m
theorem szs_mem : ∀ {ds : List D} {d : D}, d ∈ ds → d.sz < D.szs ds
  | d :: ds, e, m => by
    simp only [D.szs]
    rcases List.mem_cons.mp m with rfl | m
    · omega
    · have := szs_mem m
      omega
theorem szs_len : ∀ ds : List D, ds.length ≤ D.szs ds
  | [] => Nat.le_refl _
  | d :: ds => by
    have := szs_len ds
    simp only [D.szs, List.length_cons]
    omega
theorem okD.tup {ds : List D} (h : okD (.tup ds)) : ∀ d ∈ ds, okD d := fun d m => by
  obtain ⟨h1, h2⟩ := h
  simp only [D.plain] at h1
  simp only [D.sz] at h2
  have := szs_mem m
  exact ⟨plains_mem h1 m, by omega⟩
theorem len1 {α : Type} {l : List α} (h : l.length = 1) : ∃ a, l = [a] := by
  match l, h with | [a], _ => exact ⟨a, rfl⟩
theorem len2 {α : Type} {l : List α} (h : l.length = 2) : ∃ a b, l = [a, b] := by
  match l, h with | [a, b], _ => exact ⟨a, b, rfl⟩
theorem len4 {α : Type} {l : List α} (h : l.length = 4) : ∃ a b c d, l = [a, b, c, d] := by
  match l, h with | [a, b, c, d], _ => exact ⟨a, b, c, d, rfl⟩
theorem len6 {α : Type} {l : List α} (h : l.length = 6) : ∃ a b c d e f, l = [a, b, c, d, e, f] := by
  match l, h with | [a, b, c, d, e, f], _ => exact ⟨a, b, c, d, e, f, rfl⟩
/-! ### what the program's defs answer -/
def isWhole (d : D) (lo hi : Int) : Bool := match d with | .int i => decide (lo ≤ i) && decide (i ≤ hi) | _ => false
def isTruth (d : D) : Bool := match d with | .bl _ => true | _ => false
def isSide (d : D) : Bool := match d with | .str x => x == "a" || x == "b" | _ => false
def signs : Str := "abcdefghijklmnopqrstuvwxyz0123456789 "
def isText (d : D) : Bool := match d with | .str x => decide (1 ≤ x.length) && decide (x.length ≤ 20) && x.cps.toList.all (fun c => decide (c ∈ signs.cps.toList)) | _ => false
def P1 (g : D → Bool) : List D → Bool | [d] => g d | _ => false
theorem P1_no {g : D → Bool} : ∀ {ps : List D}, ¬ ps.length = 1 → P1 g ps = false
  | [], _ => rfl
  | [_], h => absurd rfl h
  | _ :: _ :: _, _ => rfl
def wordP : List D → Bool := P1 isText
def beatP : List D → Bool := P1 fun d => isWhole d 0 9999
def testP : List D → Bool := P1 fun d => isWhole d 1 9999
def askP : List D → Bool
  | [.int a, b] => decide (1 ≤ a) && decide (a ≤ 9999) && (isWhole b 0 0 || isWhole b a 9999)
  | _ => false
def fillP : List D → Bool := P1 fun d => isWhole d 2 10000
def helloP : List D → Bool
  | [a, b, c, d, e, f] => isWhole a 0 999 && isWhole b 0 9999 && isWhole c 1 10000 && isWhole d 0 10000 && isTruth e && isTruth f
  | _ => false
def byeP : List D → Bool | [] => true | _ => false
def FisWhole : DCall := fun ds q => ∃ d lo hi, ds = [d, .int lo, .int hi] ∧ okD d ∧ q (.bl (isWhole d lo hi))
def F1 (g : D → Bool) : DCall := fun ds q => ∃ d, ds = [d] ∧ okD d ∧ q (.bl (g d))
def FP (g : List D → Bool) : DCall := fun ds q => ∃ ps, ds = [.tup ps] ∧ (∀ d ∈ ps, okD d) ∧ q (.bl (g ps))
theorem sc_is_whole : FnScope ["thing", "low", "high"] ["thing", "low", "high"] (defScope s_is_whole) := ⟨rfl, rfl, rfl, by decide +kernel, rfl, by decide +kernel, by decide +kernel⟩
theorem ok_is_whole {R : Res} {f : Addr} {fd : FuncData} (F : Fun K "is_whole" "is_whole" s_is_whole f fd) (T : Txt K mg) : FnG P w K mg base 1 f fd ["thing", "low", "high"] (spD K R FisWhole) := by
  refine FunD.ok F sc_is_whole (fun ds q ⟨d, lo, hi, e, _⟩ => by rw [e]; rfl) (fun cdv A outer s H E ds q hr hgd h => ?_)
  obtain ⟨d, lo, hi, rfl, hd, h⟩ := h
  refine ⟨_, (ss_one (s_ret (d_and (d_cmp opd_eq (opr_eq hr.units0) (d_callTy cd_type call_type1 T.n_type (by decide +kernel) (a_cons (dv 0) a_nil)) (d_ty (n := "int") T.n_int (by decide +kernel))) (d_one (d_chain opd_cmpI opd_cmpI op_le op_le (dv 1) (dv 0) (dv 2)))))), ?_⟩
  have ho := hd.obj
  cases d <;> first | (cases ho; done) | skip
  all_goals simp [sNil, sSeq, sSet, sRet, sIf, sPar, sUnp, setAll, vAndV, vOrV, vNotV, vAnd, vOr, vNot, vT, vIf, vOp, vCall, vCons, vNil, vTup, vLst, vVar, vC, vChain, vSl, vNoPart, vPart, startD, typeD, isiD, lenD, isObjD, kindD, isaT, eqDD, eqD, neDD, neD, knownTy, Dl.intD, addD, subD, ixD, itemsD, L2.atI, L2.ixN, sliceD, Dl.cutD, HT.sIx, isWhole] at h ⊢
  all_goals first | exact h | skip
  all_goals (split <;> simp_all)
theorem sc_is_truth : FnScope ["thing"] ["thing"] (defScope s_is_truth) := ⟨rfl, rfl, rfl, by decide +kernel, rfl, by decide +kernel, by decide +kernel⟩
theorem ok_is_truth {R : Res} {f : Addr} {fd : FuncData} (F : Fun K "is_truth" "is_truth" s_is_truth f fd) (T : Txt K mg) : FnG P w K mg base 1 f fd ["thing"] (spD K R (F1 isTruth)) := by
  refine FunD.ok F sc_is_truth (fun ds q ⟨d, e, _⟩ => by rw [e]; rfl) (fun cdv A outer s H E ds q hr hgd h => ?_)
  obtain ⟨d, rfl, hd, h⟩ := h
  refine ⟨_, (ss_one (s_ret (d_cmp opd_eq (opr_eq hr.units0) (d_callTy cd_type call_type1 T.n_type (by decide +kernel) (a_cons (dv 0) a_nil)) (d_ty (n := "bool") T.n_bool (by decide +kernel))))), ?_⟩
  have ho := hd.obj
  cases d <;> first | (cases ho; done) | skip
  all_goals simp [sNil, sSeq, sSet, sRet, sIf, sPar, sUnp, setAll, vAndV, vOrV, vNotV, vAnd, vOr, vNot, vT, vIf, vOp, vCall, vCons, vNil, vTup, vLst, vVar, vC, vChain, vSl, vNoPart, vPart, startD, typeD, isiD, lenD, isObjD, kindD, isaT, eqDD, eqD, neDD, neD, knownTy, Dl.intD, addD, subD, ixD, itemsD, L2.atI, L2.ixN, sliceD, Dl.cutD, HT.sIx, isTruth] at h ⊢
  all_goals exact h
theorem sc_is_text : FnScope ["thing", "sign"] ["thing"] (defScope s_is_text) := ⟨rfl, rfl, rfl, by decide +kernel, rfl, by decide +kernel, by decide +kernel⟩
theorem ok_is_text {R : Res} {f : Addr} {fd : FuncData} (F : Fun K "is_text" "is_text" s_is_text f fd) (T : Txt K mg) : FnG P w K mg base 1 f fd ["thing"] (spD K R (F1 isText)) := by
  refine FunD.ok F sc_is_text (fun ds q ⟨d, e, _⟩ => by rw [e]; rfl) (fun cdv A outer s H E ds q hr hgd h => ?_)
  obtain ⟨d, rfl, hd, h⟩ := h
  refine ⟨_, (ss_cons (s_if (PW.pt (t_or (t_cmp opd_ne opr_ne (d_callTy cd_type call_type1 T.n_type (by decide +kernel) (a_cons (dv 0) a_nil)) (d_ty (n := "str") T.n_str (by decide +kernel))) (t_or1 (t_not (t_chain opd_cmpI opd_cmpI op_le op_le d_int (d_callB cd_len call_len T.n_len (by decide +kernel) (a_cons (dv 0) a_nil)) (d_gintT T.c_MOST_SIGNS)))))) (ss_one (s_ret d_bl)) ss_nil) (ss_one (s_ret (d_callB cd_all (cr_all rfl) T.n_all (by decide +kernel) (a_cons (d_lc (i := 1) rfl sc_is_text.nd (i_str (dv 0)) (blkOk_by (own := [("sign", 1)]) (N := ["thing", "sign"]) (sc := defScope s_is_text) (by decide +kernel)) (fun _ _ _ _ _ => pg_name (i := 1) sc_is_text.nd rfl (Or.inl rfl)) (fun _ _ _ _ _ A => (d_cmp opd_inS op_in_sign (dv 1) (d_gstrT T.c_TEXT_SIGNS)))) a_nil))))), ?_⟩
  have ho := hd.obj
  cases d <;> first | (cases ho; done) | skip
  case str x =>
    have hz : x.length ≤ sizeLine := by
      have := hd.2
      simp only [D.sz] at this
      rw [sizeLine_eq]
      omega
    refine ⟨.str x, rfl, .str x, rfl, rfl, _, neD_ty (d := .str x) rfl (by decide), false, rfl, ?_⟩
    refine iteF ⟨.str x, rfl, .str x, rfl, .inr ⟨x, rfl, hz, 1, _, rfl, rfl, trivial, _, rfl, ?_⟩⟩
    by_cases h1 : (1 : Int) ≤ (x.length : Int)
    · rw [decide_eq_true h1]
      refine iteT ⟨_, _, rfl, rfl, trivial, _, rfl, ?_⟩
      by_cases h2 : (x.length : Int) ≤ 20
      · rw [decide_eq_true h2]
        refine iteF ⟨.str x, rfl, x, rfl, all_lc (g := fun c => decide (c ∈ signs.cps.toList)) hz (fun c _ => ⟨_, rfl, c, _, rfl, rfl, rfl⟩) ?_⟩
        have e : isText (.str x) = (x.cps.toList.all fun c => decide (c ∈ signs.cps.toList)) := by
          show (decide (1 ≤ x.length) && decide (x.length ≤ 20) && _) = _
          rw [decide_eq_true (by omega), decide_eq_true (by omega)]
          rfl
        rw [e] at h
        exact h
      · rw [decide_eq_false h2]
        refine iteT ?_
        have e : isText (.str x) = false := by
          show (decide (1 ≤ x.length) && decide (x.length ≤ 20) && _) = _
          rw [decide_eq_false (p := x.length ≤ 20) (by omega)]
          simp
        rw [e] at h
        exact h
    · rw [decide_eq_false h1]
      refine iteF ⟨_, rfl, iteT ?_⟩
      have e : isText (.str x) = false := by
        show (decide (1 ≤ x.length) && decide (x.length ≤ 20) && _) = _
        rw [decide_eq_false (p := 1 ≤ x.length) (by omega)]
        simp
      rw [e] at h
      exact h
  all_goals simp [sNil, sSeq, sSet, sRet, sIf, sPar, sUnp, setAll, vAndV, vOrV, vNotV, vAnd, vOr, vNot, vT, vIf, vOp, vCall, vCons, vNil, vTup, vLst, vVar, vC, vChain, vSl, vNoPart, vPart, startD, typeD, isiD, lenD, isObjD, kindD, isaT, eqDD, eqD, neDD, neD, knownTy, Dl.intD, addD, subD, ixD, itemsD, L2.atI, L2.ixN, sliceD, Dl.cutD, HT.sIx, isText] at h ⊢
  all_goals exact h
end
end K36

set_option Elab.async false
set_option linter.all false
set_option maxRecDepth 100000
set_option maxHeartbeats 4000000
namespace K36
open PySem PySem.Spec PyProof.Rows L2 Dl
theorem ifF {b : Bool} {A B : Prop} (hb : b = false) (h : B) : if b = true then A else B := by rw [hb]; exact iteF h
theorem ifT {b : Bool} {A B : Prop} (hb : b = true) (h : A) : if b = true then A else B := by rw [hb]; exact iteT h
theorem ifB {b : Bool} {A B : Prop} (h1 : b = true → A) (h0 : b = false → B) : if b = true then A else B := by
  cases b
  · exact iteF (h0 rfl)
  · exact iteT (h1 rfl)
/-- a def of the program, at some level, with such a promise, whatever may change -/
abbrev DefP (P : Program) (w : World) (K : PySem.W.Frag) (mg : Str → Option Value) (base : Heap) (x : Str) (k : Nat) (Fd : DCall) : Prop := ∀ R : Res, Def P w K mg base x k (spD K R Fd)
abbrev DefPot (P : Program) (w : World) (K : PySem.W.Frag) (mg : Str → Option Value) (base : Heap) (a : Addr) (x : Str) (k : Nat) (Fd : DCall) : Prop := ∀ {R : Res}, PotAt a R → Def P w K mg base x k (spD K R Fd)
abbrev Wd := (Int × Int) × Str
abbrev Hd := Wd × Bool
def wD (x : Wd) : D := .tup [.int x.1.1, .int x.1.2, .str x.2]
def hD (y : Hd) : D := .tup [.int y.1.1.1, .int y.1.1.2, .str y.1.2, .bl y.2]
def WOk (x : Wd) : Prop := 0 ≤ x.1.1 ∧ x.1.1 ≤ 999 ∧ 1 ≤ x.1.2 ∧ x.1.2 ≤ 9999 ∧ isText (.str x.2) = true
def placeD : D → Int × Int
  | .tup (.int a :: .int b :: _) => (a, b)
  | _ => (0, 0)
theorem cut2 (a b : D) (r : List D) : Dl.cutD (a :: b :: r) none (some 2) = [a, b] := by
  show List.take (HT.sIx (r.length + 2) (r.length + 2) (some ((2 : Nat) : Int)) - 0) (List.drop 0 (a :: b :: r)) = [a, b]
  rw [HT.sIx_nat]
  have : min 2 (r.length + 2) = 2 := by omega
  rw [this]
  simp
theorem ltZ_iff {a b : Int × Int} : ltZ a b = true ↔ a.1 < b.1 ∨ (a.1 = b.1 ∧ a.2 < b.2) := by unfold ltZ; rw [decide_eq_true_eq]
theorem ltZ_no {a b : Int × Int} : ltZ a b = false ↔ ¬ (a.1 < b.1 ∨ (a.1 = b.1 ∧ a.2 < b.2)) := by unfold ltZ; rw [decide_eq_false_iff_not]
theorem ltZ_irr (a : Int × Int) : ltZ a a = false := ltZ_no.mpr (by omega)
theorem ltZ_asym {a b : Int × Int} (h : ltZ a b = true) : ltZ b a = false := by
  rw [ltZ_iff] at h
  rw [ltZ_no]
  omega
theorem ltZ_trans {a b c : Int × Int} (h : ltZ a b = true) (k : ltZ b c = true) : ltZ a c = true := by
  rw [ltZ_iff] at h k ⊢
  omega
theorem ltZ_tot {a b : Int × Int} (h : ltZ a b = false) (n : a ≠ b) : ltZ b a = true := by
  rw [ltZ_no] at h
  rw [ltZ_iff]
  have : ¬ (a.1 = b.1 ∧ a.2 = b.2) := fun e => n (Prod.ext e.1 e.2)
  omega
def Rs (l : List (Int × Int)) : Prop := l.Pairwise fun a b => ltZ a b = true
theorem Rs.ne {l : List (Int × Int)} {a : Int × Int} (h : Rs (a :: l)) : ∀ b ∈ l, ltZ a b = true ∧ b ≠ a := fun b hb => by
  have := (List.pairwise_cons.mp h).1 b hb
  exact ⟨this, fun e => by rw [e, ltZ_irr] at this; cases this⟩
theorem Rs.nodup {l : List (Int × Int)} (h : Rs l) : l.Nodup := List.Pairwise.imp (fun {a b} e => fun z => by rw [z, ltZ_irr] at e; cases e) h
/-- a place where the books part -/
def Cand (ws : List Wd) (hs : List Hd) (p : Int × Int) : Prop := (∃ y ∈ hs, y.1.1 = p ∧ ¬ ∃ x ∈ ws, x.1 = y.1.1 ∧ x.2 = y.1.2) ∨ (∃ x ∈ ws, x.1 = p ∧ (∀ y ∈ hs, y.1.1 ≠ p) ∧ ∃ y ∈ hs, y.1.1.1 = p.1 ∧ p.2 < y.1.1.2)
/-- the first of them, or none -/
def FirstP (ws : List Wd) (hs : List Hd) : Option (Int × Int) → Prop
  | none => ∀ p, ¬ Cand ws hs p
  | some p => Cand ws hs p ∧ ∀ p', Cand ws hs p' → ltZ p' p = false
theorem first_uniq {ws : List Wd} {hs : List Hd} : ∀ {o o' : Option (Int × Int)}, FirstP ws hs o → FirstP ws hs o' → o = o'
  | none, none, _, _ => rfl
  | none, some p, h, k => absurd k.1 (h p)
  | some p, none, h, k => absurd h.1 (k p)
  | some p, some p', h, k => by
    by_cases q : p = p'
    · rw [q]
    · have := ltZ_tot (k.2 p h.1) q
      rw [h.2 p' k.1] at this
      cases this
theorem hu65 {k : Nat} {A : Around} (r : Room k A) : A.units + 65 < cLine := by have := r.un; omega
/-! ### the law's dicts -/
def kvW (ws : List Wd) : List ((Int × Int) × D) := ws.map fun x => (x.1, D.str x.2)
theorem look_none {α : Type} {l : List ((Int × Int) × α)} {p : Int × Int} (h : p ∉ l.map (·.1)) : l.lookup p = none := by
  induction l with
  | nil => rfl
  | cons a l ih =>
    obtain ⟨k, d⟩ := a
    simp only [List.map_cons, List.mem_cons, not_or] at h
    rw [List.lookup_cons, beq_false_of_ne h.1]
    exact ih h.2
theorem dictP_go : ∀ (ps acc : List ((Int × Int) × D)), ((acc ++ ps).map (·.1)).Nodup → ps.foldl (fun acc p => putP acc p.1 p.2) acc = acc ++ ps
  | [], acc, _ => by rw [List.append_nil]; rfl
  | p :: ps, acc, h => by
    have hp : p.1 ∉ acc.map (·.1) := by
      rw [List.map_append, List.map_cons, List.nodup_append] at h
      exact fun m => h.2.2 _ m _ List.mem_cons_self rfl
    have e : putP acc p.1 p.2 = acc ++ [p] := by
      unfold putP
      rw [look_none hp]
      rfl
    rw [List.foldl_cons, e, dictP_go ps (acc ++ [p]) (by rw [List.append_assoc]; exact h), List.append_assoc]
    rfl
theorem dictP_nodup {ps : List ((Int × Int) × D)} (h : (ps.map (·.1)).Nodup) : dictP ps = ps := dictP_go ps [] h
theorem look_kv {ws : List Wd} (nd : (ws.map (·.1)).Nodup) {x : Wd} (h : x ∈ ws) : (kvW ws).lookup x.1 = some (.str x.2) := by
  induction ws with
  | nil => cases h
  | cons a ws ih =>
    rw [List.map_cons, List.nodup_cons] at nd
    show List.lookup x.1 ((a.1, D.str a.2) :: kvW ws) = _
    rw [List.lookup_cons]
    rcases List.mem_cons.mp h with rfl | h
    · rw [beq_self_eq_true]
    · rw [beq_false_of_ne (fun e => nd.1 (by rw [← e]; exact List.mem_map.mpr ⟨x, h, rfl⟩))]
      exact ih nd.2 h
theorem look_no {ws : List Wd} {p : Int × Int} (h : ∀ x ∈ ws, x.1 ≠ p) : (kvW ws).lookup p = none := look_none fun m => by
  obtain ⟨y, hy, e⟩ := List.mem_map.mp m
  obtain ⟨x, hx, rfl⟩ := List.mem_map.mp hy
  exact h x hx e
/-- of what was heard: those that the words don't tell so -/
def f1 (ws : List Wd) (y : Hd) : Option (Int × Int) := match (kvW ws).lookup y.1.1 with
  | some (.str t) => if t = y.1.2 then none else some y.1.1
  | _ => some y.1.1
theorem f1_iff {ws : List Wd} (nd : (ws.map (·.1)).Nodup) (y : Hd) : (f1 ws y = some y.1.1 ∧ ¬ ∃ x ∈ ws, x.1 = y.1.1 ∧ x.2 = y.1.2) ∨ (f1 ws y = none ∧ ∃ x ∈ ws, x.1 = y.1.1 ∧ x.2 = y.1.2) := by
  unfold f1
  by_cases h : ∃ x ∈ ws, x.1 = y.1.1
  · obtain ⟨x, hx, e⟩ := h
    rw [← e, look_kv nd hx]
    by_cases q : x.2 = y.1.2
    · right
      exact ⟨if_pos q, x, hx, rfl, q⟩
    · left
      refine ⟨if_neg q, fun ⟨x', hx', e1, e2⟩ => ?_⟩
      have h1 := look_kv nd hx
      have h2 := look_kv nd hx'
      rw [e1, h1] at h2
      exact q ((D.str.inj (Option.some.inj h2)).trans e2)
  · left
    rw [look_no (fun x hx e => h ⟨x, hx, e⟩)]
    exact ⟨rfl, fun ⟨x, hx, e, _⟩ => h ⟨x, hx, e⟩⟩
def endsL (hs : List Hd) : List (Key × D) := hs.foldl (fun E y => putKD E (.inl y.1.1.1) (.int y.1.1.2)) []
theorem endsL_snoc (hs : List Hd) (y : Hd) : endsL (hs ++ [y]) = putKD (endsL hs) (.inl y.1.1.1) (.int y.1.1.2) := by
  unfold endsL
  rw [List.foldl_append]
  rfl
theorem putKD_all {E : List (Key × D)} {k : Key} {i : Int} (h : AllInts E) : AllInts (putKD E k (.int i)) := by
  intro x hx
  unfold putKD at hx
  split at hx
  · obtain ⟨y, hy, rfl⟩ := List.mem_map.mp hx
    split
    · exact ⟨i, rfl⟩
    · exact h y hy
  · rcases List.mem_append.mp hx with m | m
    · exact h x m
    · simp only [List.mem_singleton] at m
      rw [m]
      exact ⟨i, rfl⟩
theorem putKD_len (E : List (Key × D)) (k : Key) (d : D) : (putKD E k d).length ≤ E.length + 1 := by
  unfold putKD
  split <;> simp
theorem rev_ind {α : Type} {p : List α → Prop} (h0 : p []) (h1 : ∀ l a, p l → p (l ++ [a])) (l : List α) : p l := by
  have : ∀ m : List α, p m.reverse := by
    intro m
    induction m with
    | nil => exact h0
    | cons a m ih => rw [List.reverse_cons]; exact h1 _ _ ih
  have := this l.reverse
  rwa [List.reverse_reverse] at this
theorem endsL_ok (hs : List Hd) : AllInts (endsL hs) ∧ (endsL hs).length ≤ hs.length := by
  induction hs using rev_ind with
  | h0 => exact ⟨fun x hx => (by cases hx), Nat.le_refl _⟩
  | h1 l y ih =>
    rw [endsL_snoc]
    refine ⟨putKD_all ih.1, ?_⟩
    have := putKD_len (endsL l) (.inl y.1.1.1) (.int y.1.1.2)
    rw [List.length_append]
    simp only [List.length_cons, List.length_nil]
    omega
/-- the last number of a round, 0 where it has none -/
def lastN (hs : List Hd) (t : Int) : Int := match (valD (endsL hs) (.inl t)) with
  | some (.int i) => i
  | _ => 0
theorem lastN_eq (hs : List Hd) (t : Int) : (valD (endsL hs) (.inl t)).getD (.int 0) = .int (lastN hs t) := by
  unfold lastN
  cases e : valD (endsL hs) (.inl t) with
  | none => rfl
  | some d =>
    obtain ⟨x, hx, ex⟩ := valD_mem e
    obtain ⟨i, hi⟩ := (endsL_ok hs).1 x hx
    rw [hi] at ex
    subst ex
    rfl
theorem lastN_ok (hs : List Hd) (t : Int) : Rs (hs.map (·.1.1)) → ((∀ y ∈ hs, y.1.1.1 = t → y.1.1.2 ≤ lastN hs t) ∧ ((∃ y ∈ hs, y.1.1.1 = t ∧ y.1.1.2 = lastN hs t) ∨ lastN hs t = 0)) := by
  induction hs using rev_ind with
  | h0 => exact fun _ => ⟨fun y hy => (by cases hy), .inr rfl⟩
  | h1 l y ih =>
    intro hr
    rw [List.map_append, Rs, List.pairwise_append] at hr
    obtain ⟨hr1, _, hr2⟩ := hr
    obtain ⟨i1, i2⟩ := ih hr1
    by_cases e : y.1.1.1 = t
    · have el : lastN (l ++ [y]) t = y.1.1.2 := by
        unfold lastN
        rw [endsL_snoc, e, vp_eq]
      rw [el]
      refine ⟨fun z hz ez => ?_, .inl ⟨y, by simp, e, rfl⟩⟩
      rcases List.mem_append.mp hz with m | m
      · have := hr2 z.1.1 (List.mem_map.mpr ⟨z, m, rfl⟩) y.1.1 (by simp)
        rw [ltZ_iff] at this
        omega
      · simp only [List.mem_singleton] at m
        rw [m]
        exact Int.le_refl _
    · have el : lastN (l ++ [y]) t = lastN l t := by
        unfold lastN
        rw [endsL_snoc, vp_ne (fun z => e (Sum.inl.inj z))]
      rw [el]
      refine ⟨fun z hz ez => ?_, ?_⟩
      · rcases List.mem_append.mp hz with m | m
        · exact i1 z m ez
        · simp only [List.mem_singleton] at m
          rw [m] at ez
          exact absurd ez e
      · rcases i2 with ⟨z, hz, e1, e2⟩ | e0
        · exact .inl ⟨z, List.mem_append_left _ hz, e1, e2⟩
        · exact .inr e0
def f2 (hs : List Hd) (p : Int × Int) : Option (Int × Int) := if p ∈ hs.map (·.1.1) then none else if p.2 < lastN hs p.1 then some p else none
/-- all that the law finds -/
def candL (ws : List Wd) (hs : List Hd) : List (Int × Int) := hs.filterMap (f1 ws) ++ (ws.map (·.1)).filterMap (f2 hs)
theorem candL_iff {ws : List Wd} {hs : List Hd} (nd : (ws.map (·.1)).Nodup) (rh : Rs (hs.map (·.1.1))) (pos : ∀ x ∈ ws, 1 ≤ x.1.2) (p : Int × Int) : p ∈ candL ws hs ↔ Cand ws hs p := by
  unfold candL
  rw [List.mem_append, List.mem_filterMap, List.mem_filterMap]
  constructor
  · rintro (⟨y, hy, e⟩ | ⟨q, hq, e⟩)
    · rcases f1_iff nd y with ⟨e1, no⟩ | ⟨e1, _⟩
      · rw [e1] at e
        cases e
        exact .inl ⟨y, hy, rfl, no⟩
      · rw [e1] at e
        cases e
    · obtain ⟨x, hx, rfl⟩ := List.mem_map.mp hq
      unfold f2 at e
      by_cases h1 : x.1 ∈ hs.map (·.1.1)
      · rw [if_pos h1] at e
        cases e
      · rw [if_neg h1] at e
        by_cases h2 : x.1.2 < lastN hs x.1.1
        · rw [if_pos h2] at e
          cases e
          refine .inr ⟨x, hx, rfl, fun y hy z => h1 (List.mem_map.mpr ⟨y, hy, z⟩), ?_⟩
          have hp := pos x hx
          rcases (lastN_ok hs x.1.1 rh).2 with ⟨y, hy, e1, e2⟩ | e0
          · exact ⟨y, hy, e1, by omega⟩
          · omega
        · rw [if_neg h2] at e
          cases e
  · rintro (⟨y, hy, rfl, no⟩ | ⟨x, hx, rfl, no, y, hy, e1, e2⟩)
    · rcases f1_iff nd y with ⟨e1, _⟩ | ⟨_, h⟩
      · exact .inl ⟨y, hy, e1⟩
      · exact absurd h no
    · refine .inr ⟨x.1, List.mem_map.mpr ⟨x, hx, rfl⟩, ?_⟩
      unfold f2
      rw [if_neg (fun m => by
        obtain ⟨z, hz, ez⟩ := List.mem_map.mp m
        exact no z hz ez)]
      have := (lastN_ok hs x.1.1 rh).1 y hy e1
      rw [if_pos (by omega)]
def txtD : D → D
  | .tup (_ :: _ :: t :: _) => t
  | _ => .non
def strOf : D → Str
  | .str t => t
  | _ => ""
def g1 (ws : List Wd) (d : D) : Option D := (f1 ws ((placeD d, strOf (txtD d)), false)).map Dl.pairD
theorem g1_h (ws : List Wd) (y : Hd) : g1 ws (hD y) = (f1 ws y).map Dl.pairD := rfl
def g2 (hs : List Hd) (d : D) : Option D := (f2 hs (placeD d)).map Dl.pairD
theorem g2_p (hs : List Hd) (p : Int × Int) : g2 hs (Dl.pairD p) = (f2 hs p).map Dl.pairD := rfl
theorem slice_h (y : Hd) (q : D → Prop) : sliceD (hD y) none (some 2) q = q (Dl.pairD y.1.1) := by
  show q (.tup (Dl.cutD [.int y.1.1.1, .int y.1.1.2, .str y.1.2, .bl y.2] none (some 2))) = _
  rw [cut2]
  rfl
theorem slice_w (x : Wd) (q : D → Prop) : sliceD (wD x) none (some 2) q = q (Dl.pairD x.1) := by
  show q (.tup (Dl.cutD [.int x.1.1, .int x.1.2, .str x.2] none (some 2))) = _
  rw [cut2]
  rfl
theorem seq_cut {A rest : TDSS Sy} {e : SEnds Sy} {τ : Sy} {ρ : DE} (Iv : Sy → DE → Prop) (h2 : ∀ τ' ρ', Iv τ' ρ' → rest e τ' ρ') (h1 : ∀ nx : Sy → DE → Prop, (∀ τ' ρ', Iv τ' ρ' → nx τ' ρ') → A ⟨nx, e.rt, e.xc⟩ τ ρ) : ySeq A rest e τ ρ := h1 _ h2
end K36

set_option Elab.async false
set_option linter.all false
set_option maxRecDepth 100000
set_option maxHeartbeats 4000000
namespace K36
open PySem PySem.Spec PyProof.Rows L2 Dl
section
variable {P : Program} {w : World} {K : PySem.W.Frag} {mg : Str → Option Value} {base : Heap}
/-! ### the law's draws -/
def Fpull (a : Addr) : DCall := fun ds q => ∃ n : Int, ds = [.ptr a, .int n] ∧ 0 < n ∧ n < 1073741824 ∧ ∀ k : Int, 0 ≤ k → k < n → q (.int k)
theorem sc_law_pull : FnScope ["pot", "size", "digit", "state"] ["pot", "size"] (defScope s_law_pull) := ⟨rfl, rfl, rfl, by decide +kernel, rfl, by decide +kernel, by decide +kernel⟩
theorem ok_law_pull {R : Res} {a : Addr} (hp : PotAt a R) {f : Addr} {fd : FuncData} (F : Fun K "_law_pull" "_law_pull" s_law_pull f fd) (T : Txt K mg) : FnG P w K mg base 1 f fd ["pot", "size"] (spD K R (Fpull a)) := by
  refine FunD.ok F sc_law_pull (fun ds q ⟨_, e, _⟩ => by rw [e]; rfl) (fun cdv A outer s H E ds q hr hgd h => ?_)
  obtain ⟨n, rfl, h0, h1, h⟩ := h
  refine ⟨_, (ss_cons (s_pot (i := 0) (k := 2) hp (by decide) (d_op opd_add opr_add (d_pot (i := 0) (k := 2) hp (by decide)) d_int)) (ss_cons (s_if (t_cmp opd_cmpI op_gt (d_pot (i := 0) (k := 0) hp (by decide)) d_int) (ss_cons (s_potUnp (i := 0) (j0 := 2) (k := 0) sc_law_pull.nd rfl hp (by decide) (d_callB cd_divmod call_divmod T.n_divmod (by decide +kernel) (a_cons (d_pot (i := 0) (k := 0) hp (by decide)) (a_cons (dv 1) a_nil))) (by decide)) (ss_one (s_ret (dv 2)))) ss_nil) (ss_cons (s_set (i := 3) sc_law_pull.nd (d_op opd_int op_mod (d_pot (i := 0) (k := 1) hp (by decide)) d_int)) (ss_cons (s_pot (i := 0) (k := 1) hp (by decide) (d_op opd_add opr_add (d_op opd_int op_mul (dv 3) (d_op opd_add opr_add (d_op opd_int op_mod (dv 3) d_int) d_int)) (d_op opd_int op_mul d_int (d_pot (i := 0) (k := 2) hp (by decide))))) (ss_one (s_ret (d_op opd_int op_mod (d_op opd_int op_fdiv (d_op opd_int op_mod (d_pot (i := 0) (k := 1) hp (by decide)) d_int) d_int) (dv 1)))))))), ?_⟩
  refine ⟨rfl, rfl, fun u => ⟨_, rfl, ?_⟩⟩
  refine ⟨rfl, fun x0 => ⟨_, _, rfl, rfl, trivial, _, rfl, ?_⟩⟩
  refine ifB (fun _ => ?_) (fun _ => ?_)
  · refine ⟨rfl, rfl, fun y => ⟨.int n, rfl, y, n, rfl, ⟨h0, h1⟩, _, _, rfl, _, rfl, ?_⟩⟩
    exact h _ (Int.emod_nonneg _ (by omega)) (Int.emod_lt_of_pos _ h0)
  · refine ⟨rfl, fun y => ⟨_, _, rfl, rfl, (show (0:Int) < 1000000409 by decide), ?_⟩⟩
    refine ⟨rfl, _, rfl, _, rfl, _, _, rfl, rfl, (show (0:Int) < 47017 by decide), _, _, rfl, rfl, .inl ⟨?_, ?_⟩, rfl, fun z => ⟨_, _, rfl, rfl, .inl ⟨by decide, by decide⟩, _, rfl, ?_⟩⟩
    · have := Int.emod_nonneg y (show (1000000409 : Int) ≠ 0 by decide); omega
    · have := Int.emod_lt_of_pos y (show (0 : Int) < 1000000409 by decide); omega
    refine ⟨rfl, fun z2 => ⟨_, _, rfl, rfl, (show (0:Int) < 1000000409 by decide), _, _, rfl, rfl, (⟨by decide, by decide⟩ : CDiv 0 32), .int n, rfl, _, n, rfl, rfl, h0, ?_⟩⟩
    exact h _ (Int.emod_nonneg _ (by omega)) (Int.emod_lt_of_pos _ h0)
def Fphrase (a : Addr) : DCall := fun ds q => ds = [.ptr a] ∧ ∀ x : Str, isText (.str x) = true → q (.str x)
theorem join_signs : ∀ l : List Nat, (Str.join (Str.ofString "") (l.map fun c => (⟨#[c]⟩ : Str))).cps.toList = l
  | [] => rfl
  | [c] => rfl
  | c :: d :: l => by
    have ih := join_signs (d :: l)
    show ((⟨#[c]⟩ : Str) ++ (Str.ofString "") ++ Str.join (Str.ofString "") ((d :: l).map fun c => (⟨#[c]⟩ : Str))).cps.toList = _
    rw [Str.cps_append, Str.cps_append, Array.toList_append, ih]
    rfl
theorem txt_join_signs (l : List Nat) : (Txt.join (Str.ofString "") (l.map fun c => (⟨#[c]⟩ : Str))).cps.toList = l := by
  show (Builtin.Str.glued (Str.ofString "") _).cps.toList = _
  rw [StrLaws.glued_eq_join]
  exact join_signs l
theorem isText_of {x : Str} (h1 : 1 ≤ x.cps.toList.length) (h2 : x.cps.toList.length ≤ 20) (h3 : ∀ c ∈ x.cps.toList, c ∈ signs.cps.toList) : isText (.str x) = true := by
  show (decide (1 ≤ x.length) && decide (x.length ≤ 20) && x.cps.toList.all fun c => decide (c ∈ signs.cps.toList)) = true
  have e : x.length = x.cps.toList.length := rfl
  rw [e, decide_eq_true h1, decide_eq_true h2, List.all_eq_true.mpr fun c hc => decide_eq_true (h3 c hc)]
  rfl
theorem ones_of : ∀ (es : List D) (Pc : Nat → Prop), (∀ e ∈ es, ∃ c, Pc c ∧ e = D.str ⟨#[c]⟩) → ∃ cs : List Nat, es = (cs.map fun c => (⟨#[c]⟩ : Str)).map D.str ∧ cs.length = es.length ∧ ∀ c ∈ cs, Pc c
  | [], _, _ => ⟨[], rfl, rfl, fun _ m => absurd m (by simp)⟩
  | e :: es, Pc, h => by
    obtain ⟨c, hc, rfl⟩ := h e List.mem_cons_self
    obtain ⟨cs, rfl, hl, hp⟩ := ones_of es Pc fun e' m => h e' (List.mem_cons_of_mem _ m)
    refine ⟨c :: cs, rfl, by simp, fun d m => ?_⟩
    rcases List.mem_cons.mp m with rfl | m
    · exact hc
    · exact hp d m
theorem sum_ones : ∀ cs : List Nat, ((cs.map fun c => (⟨#[c]⟩ : Str)).map (·.length)).sum = cs.length
  | [] => rfl
  | c :: cs => by
    have := sum_ones cs
    simp only [List.map_cons, List.sum_cons, this, List.length_cons]
    show 1 + cs.length = _
    omega
theorem sc_law_phrase : FnScope ["pot", "signs", "menu", "k"] ["pot"] (defScope s_law_phrase) := ⟨rfl, rfl, rfl, by decide +kernel, rfl, by decide +kernel, by decide +kernel⟩
theorem ok_law_phrase {R : Res} {a : Addr} (hp : PotAt a R) {f : Addr} {fd : FuncData} (F : Fun K "_law_phrase" "_law_phrase" s_law_phrase f fd) (T : Txt K mg) (D_law_pull : DefPot P w K mg base a "_law_pull" 1 (Fpull a)) : FnG P w K mg base 2 f fd ["pot"] (spD K R (Fphrase a)) := by
  refine FunD.ok F sc_law_phrase (fun ds q ⟨e, _⟩ => by rw [e]; rfl) (fun cdv A outer s H E ds q hr hgd h => ?_)
  obtain ⟨rfl, h⟩ := h
  refine ⟨_, (ss_cons (s_set (i := 1) sc_law_phrase.nd d_str) (ss_cons (s_set (i := 2) sc_law_phrase.nd (d_lst (a_cons d_str (a_cons d_str (a_cons d_str (a_cons d_str (a_cons d_str (a_cons d_str (a_cons d_str (a_cons d_str (a_cons d_str (a_cons d_str (a_cons d_str (a_cons d_str (a_cons d_str (a_cons d_str (a_cons d_str a_nil))))))))))))))))) (ss_cons (s_if (t_cmp opd_eq (opr_eq hr.units0) (d_call (D_law_pull hp) (hr.mono (by omega)) hgd (a_cons (dv 0) (a_cons d_int a_nil))) d_int) (ss_one (s_ret (d_ix (dv 2) (d_call (D_law_pull hp) (hr.mono (by omega)) hgd (a_cons (dv 0) (a_cons d_int a_nil)))))) ss_nil) (ss_one (s_ret (d_join d_str (d_lc (i := 3) rfl sc_law_phrase.nd (i_range T.n_range (a_cons (d_op opd_add opr_add d_int (d_call (D_law_pull hp) (hr.mono (by omega)) hgd (a_cons (dv 0) (a_cons (d_ix (d_lst (a_cons d_int (a_cons d_int a_nil))) (d_call (D_law_pull hp) (hr.mono (by omega)) hgd (a_cons (dv 0) (a_cons d_int a_nil)))) a_nil)))) a_nil)) (blkOk_by (own := [("k", 3)]) (N := ["pot", "signs", "menu", "k"]) (sc := defScope s_law_phrase) (by decide +kernel)) (fun _ _ _ _ _ => pg_name (i := 3) sc_law_phrase.nd rfl (Or.inl rfl)) (fun _ _ _ _ _ A => (d_ix (dv 1) (d_call (D_law_pull hp.add) (hr.mono (by omega)) hgd (a_cons (dv 0) (a_cons d_int a_nil)))))))))))), ?_⟩
  refine ⟨by rw [sizeLine_eq]; exact (by decide : (15 : Nat) ≤ 16777216), .ptr a, rfl, 3, rfl, by decide, by decide, fun k1 a1 b1 => ⟨_, rfl, _, rfl, ?_⟩⟩
  refine ifB (fun _ => ?_) (fun _ => ?_)
  · refine ⟨_, rfl, .ptr a, rfl, 15, rfl, by decide, by decide, fun k2 a2 b2 => ?_⟩
    obtain ⟨d, e1, e2⟩ := atI_mem (ds := [D.str "tell", .str "word", .str "own", .str "yes", .str "no", .str "lost", .str "round", .str "a", .str "b", .str " ", .str "0", .str "hello", .str "bye", .str "fill", .str "again"]) a2 b2
    refine ⟨k2, rfl, .inl ⟨_, d, rfl, e1, ?_⟩⟩
    have key : ∀ d ∈ [D.str "tell", .str "word", .str "own", .str "yes", .str "no", .str "lost", .str "round", .str "a", .str "b", .str " ", .str "0", .str "hello", .str "bye", .str "fill", .str "again"], ∃ x, d = .str x ∧ isText (.str x) = true := by
      intro d hd
      simp only [List.mem_cons, List.not_mem_nil, or_false] at hd
      rcases hd with rfl | rfl | rfl | rfl | rfl | rfl | rfl | rfl | rfl | rfl | rfl | rfl | rfl | rfl | rfl <;> exact ⟨_, rfl, by decide +kernel⟩
    obtain ⟨x, rfl, hx⟩ := key d e2
    exact h x hx
  · refine ⟨_, rfl, .ptr a, rfl, by rw [sizeLine_eq]; exact (by decide : (2 : Nat) ≤ 16777216), .ptr a, rfl, 2, rfl, by decide, by decide, fun k2 a2 b2 => ?_⟩
    obtain ⟨d, e1, e2⟩ := atI_mem (ds := [D.int 3, .int 20]) a2 b2
    refine ⟨k2, rfl, .inl ⟨_, d, rfl, e1, ?_⟩⟩
    obtain ⟨m, rfl, m0, m1⟩ : ∃ m : Int, d = .int m ∧ 0 < m ∧ m ≤ 20 := by
      simp only [List.mem_cons, List.not_mem_nil, or_false] at e2
      rcases e2 with rfl | rfl <;> exact ⟨_, rfl, by decide, by decide⟩
    refine ⟨m, rfl, m0, by omega, fun k3 a3 b3 => ?_⟩
    refine ⟨_, rfl, by omega, by omega, ?_⟩
    refine ⟨by rw [List.length_map, List.length_range, sizeLine_eq]; omega, fun _ e => ∃ c, c ∈ signs.cps.toList ∧ e = D.str ⟨#[c]⟩, fun j d hj => ?_, fun es hl hP => ?_⟩
    · refine ⟨.str signs, rfl, .ptr a, rfl, 37, rfl, by decide, by decide, fun k4 a4 b4 => ?_⟩
      obtain ⟨n, c, rfl, hn, q1, q2⟩ := atI_place (ds := signs.cps.toList) a4 (by rw [show signs.cps.toList.length = 37 by decide +kernel]; exact b4)
      exact ⟨_, rfl, .inr ⟨signs, c, rfl, by rw [sizeLine_eq]; decide +kernel, q1, c, List.mem_of_getElem? q2, rfl⟩⟩
    · obtain ⟨cs, rfl, hc, hcs⟩ := ones_of es (fun c => c ∈ signs.cps.toList) fun e m => by
        obtain ⟨j, hj⟩ := List.mem_iff_getElem?.mp m
        exact hP j e hj
      have hlc : cs.length = (1 + k3).toNat := by rw [hc, hl, List.length_map, List.length_range]
      refine ⟨_, .inr rfl, by rw [sum_ones, List.length_map]; show cs.length + cs.length * 0 ≤ _; omega, h _ (isText_of ?_ ?_ ?_)⟩
      · rw [txt_join_signs]; omega
      · rw [txt_join_signs]; omega
      · rw [txt_join_signs]; exact hcs
/-! ### a letter, drawn -/
end
end K36

set_option Elab.async false
set_option linter.all false
set_option maxRecDepth 100000
set_option maxHeartbeats 4000000
namespace K36
open PySem PySem.Spec PyProof.Rows L2 Dl
theorem cutS_list (x : Str) (lo hi : Option Int) : (cutS x lo hi).cps.toList = (x.cps.toList.drop (HT.sIx x.length 0 lo)).take (HT.sIx x.length x.length hi - HT.sIx x.length 0 lo) := by simp [cutS]
def sig (z : Str) : Prop := ∀ c ∈ z.cps.toList, c ∈ signs.cps.toList
theorem sig_text {x : Str} (h : isText (.str x) = true) : sig x ∧ 1 ≤ x.cps.toList.length ∧ x.cps.toList.length ≤ 20 := by
  have h : (decide (1 ≤ x.length) && decide (x.length ≤ 20) && x.cps.toList.all fun c => decide (c ∈ signs.cps.toList)) = true := h
  rw [Bool.and_eq_true, Bool.and_eq_true, decide_eq_true_eq, decide_eq_true_eq, List.all_eq_true] at h
  exact ⟨fun c hc => of_decide_eq_true (h.2 c hc), h.1.1, h.1.2⟩
theorem text_plain {x : Str} (h : isText (.str x) = true) : D.plain (.str x) = true := by
  obtain ⟨s, _, _⟩ := sig_text h
  show x.cps.toList.all (fun c => decide (c < 128)) = true
  rw [List.all_eq_true]
  intro c hc
  have k : ∀ c ∈ signs.cps.toList, c < 128 := by decide +kernel
  exact decide_eq_true (k c (s c hc))
theorem int_plain {i : Int} (h1 : -1000 ≤ i) (h2 : i ≤ 1000) : D.plain (.int i) = true := by
  show decide (i.natAbs < 10 ^ 12) = true
  exact decide_eq_true (by omega)
theorem ok_int {i : Int} (h1 : -1000 ≤ i) (h2 : i ≤ 10000) : okD (.int i) := ⟨by show decide (i.natAbs < 10 ^ 12) = true; exact decide_eq_true (by omega), by simp [D.sz]⟩
theorem ok_text {x : Str} (h : isText (.str x) = true) : okD (.str x) := ⟨text_plain h, by
  have l : x.length ≤ 20 := (sig_text h).2.2
  simp only [D.sz]
  omega⟩
theorem ok_bl (b : Bool) : okD (.bl b) := ⟨by simp [D.plain], by simp [D.sz]⟩
theorem wOk_whole {x : Wd} (h : WOk x) : isWhole (.int x.1.1) 0 999 = true ∧ isWhole (.int x.1.2) 1 9999 = true := by
  obtain ⟨a, b, c, d, _⟩ := h
  constructor
  · show (decide (0 ≤ x.1.1) && decide (x.1.1 ≤ 999)) = true
    rw [decide_eq_true a, decide_eq_true b]; rfl
  · show (decide (1 ≤ x.1.2) && decide (x.1.2 ≤ 9999)) = true
    rw [decide_eq_true c, decide_eq_true d]; rfl
section
variable {P : Program} {w : World} {K : PySem.W.Frag} {mg : Str → Option Value} {base : Heap}
def Fplaced : DCall := fun ds q => ∃ (x : Wd) (r : List D), ds = [.tup (.int x.1.1 :: .int x.1.2 :: .str x.2 :: r), .int ((r.length : Int) + 3)] ∧ r.length ≤ 10 ∧ WOk x ∧ q (.bl true)
theorem sc_is_placed : FnScope ["row", "many"] ["row", "many"] (defScope s_is_placed) := ⟨rfl, rfl, rfl, by decide +kernel, rfl, by decide +kernel, by decide +kernel⟩
theorem ok_is_placed {R : Res} {f : Addr} {fd : FuncData} (F : Fun K "_is_placed" "_is_placed" s_is_placed f fd) (T : Txt K mg) (D_is_whole : DefP P w K mg base "is_whole" 1 FisWhole) (D_is_text : DefP P w K mg base "is_text" 1 (F1 isText)) : FnG P w K mg base 2 f fd ["row", "many"] (spD K R Fplaced) := by
  refine FunD.ok F sc_is_placed (fun ds q ⟨_, _, e, _⟩ => by rw [e]; rfl) (fun cdv A outer s H E ds q hr hgd h => ?_)
  obtain ⟨x, r, rfl, lr, ok, h⟩ := h
  refine ⟨_, (ss_cons (s_if (PW.pt (t_or (t_cmp opd_ne opr_ne (d_callTy cd_type call_type1 T.n_type (by decide +kernel) (a_cons (dv 0) a_nil)) (d_ty (n := "tuple") T.n_tuple (by decide +kernel))) (t_or1 (t_cmp opd_ne opr_ne (d_callB cd_len call_len T.n_len (by decide +kernel) (a_cons (dv 0) a_nil)) (dv 1))))) (ss_one (s_ret d_bl)) ss_nil) (ss_one (s_ret (d_and (d_call (D_is_whole _) (hr.mono (by omega)) hgd (a_cons (d_ix (dv 0) d_int) (a_cons d_int (a_cons (d_gintT T.c_MOST_ROUND) a_nil)))) (d_and (d_call (D_is_whole _) (hr.mono (by omega)) hgd (a_cons (d_ix (dv 0) d_int) (a_cons d_int (a_cons (d_gintT T.c_MOST_NUMBER) a_nil)))) (d_one (d_call (D_is_text _) (hr.mono (by omega)) hgd (a_cons (d_ix (dv 0) d_int) a_nil)))))))), ?_⟩
  obtain ⟨w1, w2⟩ := wOk_whole ok
  have okr : okD (.int x.1.1) := ok_int (by have := ok.1; omega) (by have := ok.2.1; omega)
  have okn : okD (.int x.1.2) := ok_int (by have := ok.2.2.1; omega) (by have := ok.2.2.2.1; omega)
  refine ⟨_, rfl, _, rfl, rfl, _, neD_ty (d := .tup (.int x.1.1 :: .int x.1.2 :: .str x.2 :: r)) rfl (by decide), false, rfl, iteF ?_⟩
  refine ⟨_, rfl, _, rfl, .inl ⟨_, rfl, _, rfl, _, rfl, false, ?_, iteF ?_⟩⟩
  · have e : (((D.int x.1.1 :: D.int x.1.2 :: D.str x.2 :: r).length : Nat) : Int) = (r.length : Int) + 3 := by simp only [List.length_cons]; omega
    rw [e]
    simp
  refine ⟨_, rfl, 0, rfl, .inl ⟨_, _, rfl, atI_nat (j := 0) rfl, _, _, _, rfl, okr, ?_⟩⟩
  rw [w1]
  refine ⟨true, rfl, iteT ⟨_, rfl, 1, rfl, .inl ⟨_, _, rfl, atI_nat (j := 1) rfl, _, _, _, rfl, okn, ?_⟩⟩⟩
  rw [w2]
  refine ⟨true, rfl, iteT ⟨_, rfl, 2, rfl, .inl ⟨_, _, rfl, atI_nat (j := 2) rfl, _, rfl, ok_text ok.2.2.2.2, ?_⟩⟩⟩
  have e : isText (.str x.2) = true := ok.2.2.2.2
  rw [e]
  exact h
/-- a row that fits, by the def that says so -/
def FisWord : DCall := fun ds q => ∃ x : Wd, ds = [wD x] ∧ WOk x ∧ q (.bl true)
def FisHeard : DCall := fun ds q => ∃ y : Hd, ds = [hD y] ∧ WOk y.1 ∧ q (.bl true)
theorem sc_is_word : FnScope ["row"] ["row"] (defScope s_is_word) := ⟨rfl, rfl, rfl, by decide +kernel, rfl, by decide +kernel, by decide +kernel⟩
theorem ok_is_word {R : Res} {f : Addr} {fd : FuncData} (F : Fun K "_is_word" "_is_word" s_is_word f fd) (T : Txt K mg) (D_is_placed : DefP P w K mg base "_is_placed" 2 Fplaced) : FnG P w K mg base 3 f fd ["row"] (spD K R FisWord) := by
  refine FunD.ok F sc_is_word (fun ds q ⟨_, e, _⟩ => by rw [e]; rfl) (fun cdv A outer s H E ds q hr hgd h => ?_)
  obtain ⟨x, rfl, ok, h⟩ := h
  refine ⟨_, (ss_one (s_ret (d_call (D_is_placed _) (hr.mono (by omega)) hgd (a_cons (dv 0) (a_cons d_int a_nil))))), ?_⟩
  exact ⟨_, rfl, x, [], rfl, Nat.zero_le _, ok, h⟩
theorem sc_is_heard : FnScope ["row"] ["row"] (defScope s_is_heard) := ⟨rfl, rfl, rfl, by decide +kernel, rfl, by decide +kernel, by decide +kernel⟩
theorem ok_is_heard {R : Res} {f : Addr} {fd : FuncData} (F : Fun K "_is_heard" "_is_heard" s_is_heard f fd) (T : Txt K mg) (D_is_placed : DefP P w K mg base "_is_placed" 2 Fplaced) (D_is_truth : DefP P w K mg base "is_truth" 1 (F1 isTruth)) : FnG P w K mg base 3 f fd ["row"] (spD K R FisHeard) := by
  refine FunD.ok F sc_is_heard (fun ds q ⟨_, e, _⟩ => by rw [e]; rfl) (fun cdv A outer s H E ds q hr hgd h => ?_)
  obtain ⟨y, rfl, ok, h⟩ := h
  refine ⟨_, (ss_one (s_ret (d_and (d_call (D_is_placed _) (hr.mono (by omega)) hgd (a_cons (dv 0) (a_cons d_int a_nil))) (d_one (d_call (D_is_truth _) (hr.mono (by omega)) hgd (a_cons (d_ix (dv 0) d_int) a_nil)))))), ?_⟩
  exact ⟨_, rfl, y.1, [.bl y.2], rfl, by simp, ok, true, rfl, iteT ⟨_, rfl, 3, rfl, .inl ⟨_, _, rfl, atI_nat (j := 3) rfl, _, rfl, ok_bl _, h⟩⟩⟩
end
/-- which rows a def fits -/
def Fits (fW fH : Addr) (f : Addr) (Fd : DCall) : Prop := (f = fW ∧ Fd = FisWord) ∨ (f = fH ∧ Fd = FisHeard)
section
variable {P : Program} {w : World} {K : PySem.W.Frag} {mg : Str → Option Value} {base : Heap} {R0 : Res} {h0 : ∀ H, R0.Ss H}
def FneedY (fW fH : Addr) : DCallY Sy := fun ds τ q _ => ∃ (rows : List D) (f : Addr) (Fd : DCall), ds = [.tup rows, .ptr f] ∧ Fits fW fH f Fd ∧ rows.length ≤ 100000 ∧ (∀ d ∈ rows, (∃ a b r, d = .tup (.int a :: .int b :: r) ∧ ltZ (0, 0) (a, b) = true) ∧ ∀ q : D → Prop, q (.bl true) → Fd [d] q) ∧ Rs (rows.map placeD) ∧ q τ .non
theorem sc_need_rising : FnScope ["rows", "fits", "last", "at", "row"] ["rows", "fits"] (defScope s_need_rising) := ⟨rfl, rfl, rfl, by decide +kernel, rfl, by decide +kernel, by decide +kernel⟩
theorem ok_need_rising {fW fH f : Addr} {fd : FuncData} (F : Fun K "_need_rising" "_need_rising" s_need_rising f fd) (T : Txt K mg) (hW : ∀ R : Res, HeldG P w K mg base 3 fW (spD K R FisWord)) (hH : ∀ R : Res, HeldG P w K mg base 3 fH (spD K R FisHeard)) : FnX P w K mg base 4 f fd ["rows", "fits"] (spY K (symF K R0 h0) (FneedY fW fH)) := by
  refine FunY.ok F sc_need_rising (fun ds τ q x ⟨_, _, _, h, _⟩ => by rw [h]; rfl) (fun cdv A outer s H E ds τ q x hr hgd h => ?_)
  obtain ⟨rows, g, Fd, rfl, hS, lr, hrow, hrs, h⟩ := h
  have S_fits : ∀ {R : Res} f Fd, Fits fW fH f Fd → HeldG P w K mg base 3 f (spD K R Fd) := fun {R} f Fd h => by
    rcases h with ⟨rfl, rfl⟩ | ⟨rfl, rfl⟩
    · exact hW R
    · exact hH R
  have tk := takes_fn (N := ["rows", "fits", "last", "at", "row"]) (qual := "_need_rising") (scope := defScope s_need_rising) (f := f) (cdv := cdv) (A := A) (outer := outer) (s := s) (H := H) (E := E) (P := P) (w := w) (K := K) (mg := mg) (base := base)
  refine ⟨_, (ys_cons (y_if (yt_all fun τ => (t_cmp opd_ne opr_ne (d_callTy cd_type call_type1 T.n_type (by decide +kernel) (a_cons (dv 0) a_nil)) (d_ty (n := "tuple") T.n_tuple (by decide +kernel)))) ys_never ys_nil) (ys_cons (y_setC (i := 2) sc_need_rising.nd (c_lift fun τ => (d_tup (a_cons d_int (a_cons d_int a_nil))))) (ys_one (y_forEnumQ (is := [3, 4]) T.n_enumerate (passes_of rfl) rfl (fun τ => (dv 0)) (pgs_cons (pg_name (i := 3) sc_need_rising.nd rfl (Or.inl rfl)) (pgs_cons (pg_name (i := 4) sc_need_rising.nd rfl (Or.inl rfl)) pgs_nil)) (ys_cons (y_if (yt_all fun τ => (PW.pt (t_or (t_not (t_val (d_callA S_fits (hr.mono (by omega)) hgd (a_cons (dv 4) a_nil) (i := 1)))) (t_or1 (t_cmp opd_le2 (op_le2 hr.units) (d_slice (dv 4) o_none (o_some d_int)) (dv 2)))))) ys_never ys_nil) (ys_one (y_setC (i := 2) sc_need_rising.nd (c_lift fun τ => (d_slice (dv 4) o_none (o_some d_int)))))))))), ?_⟩
  refine ⟨_, rfl, _, rfl, rfl, _, neD_ty (d := .tup rows) rfl (by decide), false, rfl, iteF ?_⟩
  refine ⟨by rw [sizeLine_eq]; simp, _, rfl, rows, rfl, fun j τ' ρ' => τ' = τ ∧ ∃ (l : Int × Int) (u v : Option D), ρ' = [some (.tup rows), some (.ptr g), some (pairD l), u, v] ∧ ∀ d, rows[j]? = some d → ltZ l (placeD d) = true, ⟨rfl, (0, 0), none, none, rfl, fun d hd => ?_⟩, ?_, fun τ' ρ' ⟨e, _⟩ => by rw [e]; exact h⟩
  · obtain ⟨⟨a, b, r, rfl, hl⟩, _⟩ := hrow d (List.mem_of_getElem? hd)
    exact hl
  · rintro j d τ' ρ' hj ⟨rfl, l, u, v, rfl, hl⟩
    obtain ⟨⟨a, b, r, rfl, _⟩, hfit⟩ := hrow d (List.mem_of_getElem? hj)
    have h1 : ltZ l (a, b) = true := hl _ hj
    refine ⟨g, Fd, rfl, hS, _, rfl, hfit _ ⟨true, rfl, iteF ?_⟩⟩
    refine ⟨_, rfl, 2, rfl, ?_⟩
    dsimp only [sliceD]
    rw [cut2]
    refine ⟨_, rfl, (a, b), l, rfl, rfl, _, rfl, ifF (by rw [h1]; rfl) ?_⟩
    refine ⟨_, rfl, 2, rfl, ?_⟩
    dsimp only [sliceD]
    rw [cut2]
    refine ⟨rfl, (a, b), _, _, rfl, fun d hd => ?_⟩
    have h2 : (rows.map placeD)[j]? = some (a, b) := by rw [List.getElem?_map, hj]; rfl
    have h3 : (rows.map placeD)[j + 1]? = some (placeD d) := by rw [List.getElem?_map, hd]; rfl
    obtain ⟨l1, e1⟩ := List.getElem?_eq_some_iff.mp h2
    obtain ⟨l2, e2⟩ := List.getElem?_eq_some_iff.mp h3
    have := List.pairwise_iff_getElem.mp hrs j (j + 1) l1 l2 (by omega)
    rw [e1, e2] at this
    exact this
end
end K36

set_option Elab.async false
set_option linter.all false
set_option maxRecDepth 100000
set_option maxHeartbeats 4000000
namespace K36
open PySem PySem.Spec PyProof.Rows L2 Dl
structure GoodR (ws : List Wd) (hs : List Hd) : Prop where
  wok : ∀ x ∈ ws, WOk x
  hok : ∀ y ∈ hs, WOk y.1
  wr : Rs (ws.map (·.1))
  hr : Rs (hs.map (·.1.1))
  wl : ws.length ≤ 1000
  hl : hs.length ≤ 1000
def kvH (hs : List Hd) : List ((Int × Int) × D) := hs.map fun y => (y.1.1, D.bl true)
theorem look_h {hs : List Hd} {p : Int × Int} : ((kvH hs).lookup p).isSome = decide (p ∈ hs.map (·.1.1)) := by
  induction hs with
  | nil => rfl
  | cons y hs ih =>
    show (List.lookup p ((y.1.1, D.bl true) :: kvH hs)).isSome = _
    rw [List.lookup_cons]
    by_cases e : p = y.1.1
    · rw [e, beq_self_eq_true, decide_eq_true (by simp)]
      rfl
    · rw [beq_false_of_ne e]
      rw [ih]
      simp [e]
theorem endsK (hs : List Hd) : dictK (hs.map fun y => (y.1.1.1, D.int y.1.1.2)) = endsL hs := by
  unfold dictK endsL
  rw [List.foldl_map]
theorem rows_w {ws : List Wd} (ok : ∀ x ∈ ws, WOk x) : ∀ d ∈ ws.map wD, (∃ a b r, d = .tup (.int a :: .int b :: r) ∧ ltZ (0, 0) (a, b) = true) ∧ ∀ q : D → Prop, q (.bl true) → FisWord [d] q := fun d m => by
  obtain ⟨x, hx, rfl⟩ := List.mem_map.mp m
  have o := ok x hx
  refine ⟨⟨x.1.1, x.1.2, _, rfl, ltZ_iff.mpr ?_⟩, fun q h => ⟨x, rfl, o, h⟩⟩
  have := o.1
  have := o.2.2.1
  show 0 < x.1.1 ∨ (0 = x.1.1 ∧ 0 < x.1.2)
  omega
theorem rows_h {hs : List Hd} (ok : ∀ y ∈ hs, WOk y.1) : ∀ d ∈ hs.map hD, (∃ a b r, d = .tup (.int a :: .int b :: r) ∧ ltZ (0, 0) (a, b) = true) ∧ ∀ q : D → Prop, q (.bl true) → FisHeard [d] q := fun d m => by
  obtain ⟨y, hy, rfl⟩ := List.mem_map.mp m
  have o := ok y hy
  refine ⟨⟨y.1.1.1, y.1.1.2, _, rfl, ltZ_iff.mpr ?_⟩, fun q h => ⟨y, rfl, o, h⟩⟩
  have := o.1
  have := o.2.2.1
  show 0 < y.1.1.1 ∨ (0 = y.1.1.1 ∧ 0 < y.1.1.2)
  omega
section
variable {P : Program} {w : World} {K : PySem.W.Frag} {mg : Str → Option Value} {base : Heap} {R0 : Res} {h0 : ∀ H, R0.Ss H}
def FpartedY : DCallY Sy := fun ds τ q _ => ∃ (ws : List Wd) (hs : List Hd), ds = [.tup (ws.map wD), .tup (hs.map hD)] ∧ GoodR ws hs ∧ ∀ τ' o, FirstP ws hs o → q τ' (optD o)
theorem sc_parted : FnScope ["words", "heard", "texts", "places", "latest", "otherwise", "lacking", "row"] ["words", "heard"] (defScope s_parted) := ⟨rfl, rfl, rfl, by decide +kernel, rfl, by decide +kernel, by decide +kernel⟩
theorem ok_parted {fW fH f : Addr} {fd : FuncData} (F : Fun K "parted" "parted" s_parted f fd) (T : Txt K mg) (gW : mg "_is_word" = some (.ref fW)) (gH : mg "_is_heard" = some (.ref fH)) (Y_need_rising : DefX P w K mg base "_need_rising" ["rows", "fits"] 4 (spY K (symF K R0 h0) (FneedY fW fH))) : FnX P w K mg base 5 f fd ["words", "heard"] (spY K (symF K R0 h0) FpartedY) := by
  refine FunY.ok F sc_parted (fun ds τ q x ⟨_, _, h, _⟩ => by rw [h]; rfl) (fun cdv A outer s H E ds τ q x hr hgd h => ?_)
  obtain ⟨ws, hs, rfl, gd, h⟩ := h
  have tk := takes_fn (N := ["words", "heard", "texts", "places", "latest", "otherwise", "lacking", "row"]) (qual := "parted") (scope := defScope s_parted) (f := f) (cdv := cdv) (A := A) (outer := outer) (s := s) (H := H) (E := E) (P := P) (w := w) (K := K) (mg := mg) (base := base)
  refine ⟨_, (ys_cons (y_exprC (c_callA Y_need_rising tk (hr.mono (by omega)) hgd (ya_cons (c_lift fun τ => (dv 0)) (ya_cons (c_lift fun τ => (d_gptr gW)) ya_nil)))) (ys_cons (y_exprC (c_callA Y_need_rising tk (hr.mono (by omega)) hgd (ya_cons (c_lift fun τ => (dv 1)) (ya_cons (c_lift fun τ => (d_gptr gH)) ya_nil)))) (ys_cons (y_setC (i := 2) sc_parted.nd (c_dcT (i := 7) P w rfl rfl rfl hr.units sc_parted.nd (fun τ => (i_toP (i_tup (dv 0)))) (blkOk_by (own := [("row", 7)]) (N := ["words", "heard", "texts", "places", "latest", "otherwise", "lacking", "row"]) (sc := defScope s_parted) (by decide +kernel)) (fun _ _ _ _ _ => pg_name (i := 7) sc_parted.nd rfl (Or.inl rfl)) (fun τ _ _ _ _ _ A => (d_slice (dv 7) o_none (o_some d_int))) (fun τ _ _ _ _ _ A => (d_ix (dv 7) d_int)))) (ys_cons (y_setC (i := 3) sc_parted.nd (c_dcT (i := 7) P w rfl rfl rfl hr.units sc_parted.nd (fun τ => (i_toP (i_tup (dv 1)))) (blkOk_by (own := [("row", 7)]) (N := ["words", "heard", "texts", "places", "latest", "otherwise", "lacking", "row"]) (sc := defScope s_parted) (by decide +kernel)) (fun _ _ _ _ _ => pg_name (i := 7) sc_parted.nd rfl (Or.inl rfl)) (fun τ _ _ _ _ _ A => (d_slice (dv 7) o_none (o_some d_int))) (fun τ _ _ _ _ _ A => d_bl))) (ys_cons (y_setC (i := 4) sc_parted.nd (c_dcK (i := 7) rfl sc_parted.nd (fun τ => (i_toP (i_tup (dv 1)))) (blkOk_by (own := [("row", 7)]) (N := ["words", "heard", "texts", "places", "latest", "otherwise", "lacking", "row"]) (sc := defScope s_parted) (by decide +kernel)) (fun _ _ _ _ _ => pg_name (i := 7) sc_parted.nd rfl (Or.inl rfl)) (fun τ _ _ _ _ _ A => (d_ix (dv 7) d_int)) (fun τ _ _ _ _ _ A => (d_ix (dv 7) d_int)))) (ys_cons (y_lift fun τ => (s_setLcF (j := 5) (i := 7) rfl sc_parted.nd (i_toP (i_tup (dv 1))) (blkOk_by (own := [("row", 7)]) (N := ["words", "heard", "texts", "places", "latest", "otherwise", "lacking", "row"]) (sc := defScope s_parted) (by decide +kernel)) (fun _ _ _ _ _ => pg_name (i := 7) sc_parted.nd rfl (Or.inl rfl)) (fun _ _ _ _ _ A => (t_cmp opd_ne opr_ne (d_tget1 P w rfl rfl (DctAt.of symAt).add (huY hr) (dv 2) (d_slice (dv 7) o_none (o_some d_int))) (d_ix (dv 7) d_int))) (fun _ _ _ _ _ A => (d_slice (dv 7) o_none (o_some d_int))))) (ys_cons (y_lift fun τ => (s_setLcF (j := 6) (i := 7) rfl sc_parted.nd (i_toP (i_tup (dv 0))) (blkOk_by (own := [("row", 7)]) (N := ["words", "heard", "texts", "places", "latest", "otherwise", "lacking", "row"]) (sc := defScope s_parted) (by decide +kernel)) (fun _ _ _ _ _ => pg_name (i := 7) sc_parted.nd rfl (Or.inl rfl)) (fun _ _ _ _ _ A => (PW.pt (t_and (t_cmp (opd_tin (P := P) (w := w) (DctAt.of symAt).add) (op_tnotin (huY hr)) (d_slice (dv 7) o_none (o_some d_int)) (dv 3)) (t_and1 (t_cmp opd_cmpI op_lt (d_ix (dv 7) d_int) (d_dgetD (IntdAt.of symAt).add (huY hr) (dv 4) (d_ix (dv 7) d_int) d_int)))))) (fun _ _ _ _ _ A => (d_slice (dv 7) o_none (o_some d_int))))) (ys_one (y_retC (c_lift fun τ => (d_minDf rfl hr.units T.n_min (a_cons (d_op opd_addL op_cat (dv 5) (dv 6)) a_nil)))))))))))), ?_⟩
  have hz : ∀ {n : Nat}, n ≤ 1000 → n < sizeLine := fun h => by rw [sizeLine_eq]; omega
  have rw_ : Rs (ws.map (·.1)) := gd.wr
  have rh : Rs (hs.map (·.1.1)) := gd.hr
  have nd : (ws.map (·.1)).Nodup := rw_.nodup
  refine ⟨_, rfl, _, fW, FisWord, rfl, .inl ⟨rfl, rfl⟩, by rw [List.length_map]; have := gd.wl; omega, rows_w gd.wok, by rw [List.map_map]; exact gd.wr, ?_⟩
  refine ⟨_, rfl, _, fH, FisHeard, rfl, .inr ⟨rfl, rfl⟩, by rw [List.length_map]; have := gd.hl; omega, rows_h gd.hok, by rw [List.map_map]; exact gd.hr, ?_⟩
  refine ⟨_, rfl, _, rfl, by rw [List.length_map]; exact hz gd.wl, fun d => (placeD d, txtD d), fun d hd => ?_, fun a0 n0 => ?_⟩
  · obtain ⟨x, hx, rfl⟩ := List.mem_map.mp hd
    refine ⟨_, rfl, 2, rfl, ?_⟩
    dsimp only
    rw [slice_w]
    exact ⟨rfl, _, rfl, 2, rfl, .inl ⟨_, .str x.2, rfl, atI_nat (j := 2) rfl, rfl, rfl⟩⟩
  have e0 : dictP ((ws.map wD).map fun d => (placeD d, txtD d)) = kvW ws := by
    rw [List.map_map]
    exact dictP_nodup (ps := kvW ws) (by rw [kvW, List.map_map]; exact nd)
  rw [e0]
  refine ⟨_, rfl, _, rfl, by rw [List.length_map]; exact hz gd.hl, fun d => (placeD d, .bl true), fun d hd => ?_, fun a1 n1 => ?_⟩
  · obtain ⟨y, hy, rfl⟩ := List.mem_map.mp hd
    refine ⟨_, rfl, 2, rfl, ?_⟩
    dsimp only
    rw [slice_h]
    exact ⟨rfl, rfl, rfl⟩
  have e1 : dictP ((hs.map hD).map fun d => (placeD d, D.bl true)) = kvH hs := by
    rw [List.map_map]
    exact dictP_nodup (ps := kvH hs) (by rw [kvH, List.map_map]; exact rh.nodup)
  rw [e1]
  refine ⟨_, rfl, _, rfl, by rw [List.length_map]; exact hz gd.hl, fun d => ((placeD d).1, .int (placeD d).2), fun d hd => ?_, fun a2 n2 => ?_⟩
  · obtain ⟨y, hy, rfl⟩ := List.mem_map.mp hd
    exact ⟨_, rfl, 0, rfl, .inl ⟨_, .int y.1.1.1, rfl, atI_nat (j := 0) rfl, rfl, _, rfl, 1, rfl, .inl ⟨_, .int y.1.1.2, rfl, atI_nat (j := 1) rfl, rfl⟩⟩⟩
  have e2 : dictK ((hs.map hD).map fun d => ((placeD d).1, D.int (placeD d).2)) = endsL hs := by
    rw [List.map_map]
    exact endsK hs
  rw [e2]
  have d01 : a0 ≠ a1 := fun e => by rw [← e, sget_self] at n1; cases n1
  have d02 : a0 ≠ a2 := fun e => by rw [← e, sget_ne d01, sget_self] at n2; cases n2
  have d12 : a1 ≠ a2 := fun e => by rw [← e, sget_self] at n2; cases n2
  have s0 : sget ((a2, SO.dic (endsL hs)) :: (a1, SO.dct P w (kvH hs)) :: (a0, SO.dct P w (kvW ws)) :: τ) a0 = some (.dct P w (kvW ws)) := by rw [sget_ne d02, sget_ne d01, sget_self]
  have s1 : sget ((a2, SO.dic (endsL hs)) :: (a1, SO.dct P w (kvH hs)) :: (a0, SO.dct P w (kvW ws)) :: τ) a1 = some (.dct P w (kvH hs)) := by rw [sget_ne d12, sget_self]
  have s2 : sget ((a2, SO.dic (endsL hs)) :: (a1, SO.dct P w (kvH hs)) :: (a0, SO.dct P w (kvW ws)) :: τ) a2 = some (.dic (endsL hs)) := sget_self
  generalize (a2, SO.dic (endsL hs)) :: (a1, SO.dct P w (kvH hs)) :: (a0, SO.dct P w (kvW ws)) :: τ = τ1 at s0 s1 s2 ⊢
  have hz' : ∀ {n : Nat}, n ≤ 1000 → n ≤ sizeLine := fun h => by rw [sizeLine_eq]; omega
  dsimp only [ySeq, sSet, SEnds.at]
  refine vLcF_tup (g1 ws) (by rfl) (by rw [List.length_map]; exact hz' gd.hl) ?_ ?_
  · intro d hd
    obtain ⟨y, hy, rfl⟩ := List.mem_map.mp hd
    rw [g1_h]
    refine ⟨_, rfl, a0, kvW ws, rfl, s0, _, rfl, 2, rfl, ?_⟩
    dsimp only
    rw [slice_h]
    refine ⟨y.1.1, rfl, _, rfl, 2, rfl, .inl ⟨_, .str y.1.2, rfl, atI_nat (j := 2) rfl, ?_⟩⟩
    have told : ∀ b : Bool, (b = false → f1 ws y = none) → (b = true → f1 ws y = some y.1.1) → (if b = true then vSl (vVar 7) vNoPart (vPart (vC (.int 2))) (List.set ((((startD ["words", "heard", "texts", "places", "latest", "otherwise", "lacking", "row"] [D.tup (List.map wD ws), D.tup (List.map hD hs)]).set 2 (some (D.ptr a0))).set 3 (some (D.ptr a1))).set 4 (some (D.ptr a2))) 7 (some (hD y))) (fun e => (f1 ws y).map Dl.pairD = some e) else (f1 ws y).map Dl.pairD = none) := fun b b0 b1 => by
      cases b
      · rw [b0 rfl]
        exact iteF rfl
      · rw [b1 rfl]
        refine iteT ⟨_, rfl, 2, rfl, ?_⟩
        dsimp only
        rw [slice_h]
        rfl
    by_cases hx : ∃ x ∈ ws, x.1 = y.1.1
    · obtain ⟨x, hx, e⟩ := hx
      have lk : (kvW ws).lookup y.1.1 = some (.str x.2) := by rw [← e]; exact look_kv nd hx
      rw [lk]
      refine ⟨_, rfl, _, rfl, told _ (fun hb => ?_) fun hb => ?_⟩
      · have q2 : x.2 = y.1.2 := by simpa using hb
        rcases f1_iff nd y with ⟨_, no⟩ | ⟨e1, _⟩
        · exact absurd ⟨x, hx, e, q2⟩ no
        · exact e1
      · have q2 : ¬ x.2 = y.1.2 := by simpa using hb
        rcases f1_iff nd y with ⟨e1, _⟩ | ⟨_, x', hx', e2, e3⟩
        · exact e1
        · exfalso
          have h1 := look_kv nd hx
          have h2 := look_kv nd hx'
          rw [e2, ← e, h1] at h2
          exact q2 ((D.str.inj (Option.some.inj h2)).trans e3)
    · rw [look_no (fun x m e => hx ⟨x, m, e⟩)]
      refine ⟨_, rfl, _, rfl, told _ (fun hb => by cases hb) fun _ => ?_⟩
      rcases f1_iff nd y with ⟨e1, _⟩ | ⟨_, x, m, e2, _⟩
      · exact e1
      · exact absurd ⟨x, m, e2⟩ hx
  have ef1 : (hs.map hD).filterMap (g1 ws) = (hs.filterMap (f1 ws)).map Dl.pairD := by
    rw [List.filterMap_map, List.map_filterMap]
    rfl
  rw [ef1]
  refine vLcF_tup (g2 hs) (by rfl) (by rw [List.length_map]; exact hz' gd.wl) ?_ ?_
  · intro d hd
    obtain ⟨x, hx, rfl⟩ := List.mem_map.mp hd
    show vAnd _ _ _ (fun b => if b = true then _ else g2 hs (Dl.pairD x.1) = none)
    rw [g2_p]
    refine ⟨_, rfl, 2, rfl, ?_⟩
    dsimp only
    rw [slice_w]
    refine ⟨_, rfl, a1, kvH hs, x.1, rfl, s1, rfl, _, rfl, ?_⟩
    rw [look_h]
    by_cases m : x.1 ∈ hs.map (·.1.1)
    · refine ifF (by rw [decide_eq_true m]; rfl) (iteF ?_)
      rw [f2, if_pos m]
      rfl
    · refine ifT (by rw [decide_eq_false m]; rfl) ?_
      refine ⟨_, rfl, 1, rfl, .inl ⟨_, .int x.1.2, rfl, atI_nat (j := 1) rfl, _, rfl, ⟨a2, endsL hs, rfl, s2, (endsL_ok hs).1⟩, _, rfl, 0, rfl, .inl ⟨_, .int x.1.1, rfl, atI_nat (j := 0) rfl, a2, endsL hs, .inl x.1.1, 0, rfl, s2, rfl, rfl, ?_⟩⟩⟩
      rw [lastN_eq]
      refine ⟨_, _, rfl, rfl, trivial, _, rfl, ?_⟩
      by_cases lt : x.1.2 < lastN hs x.1.1
      · refine ifT (decide_eq_true lt) ⟨_, rfl, 2, rfl, ?_⟩
        dsimp only
        rw [slice_w]
        show (g2 hs (wD x)) = _
        rw [g2, show placeD (wD x) = x.1 from rfl, f2, if_neg m, if_pos lt]
        rfl
      · refine ifF (decide_eq_false lt) ?_
        rw [f2, if_neg m, if_neg lt]
        rfl
  have ef2 : (ws.map wD).filterMap (g2 hs) = ((ws.map (·.1)).filterMap (f2 hs)).map Dl.pairD := by
    rw [List.filterMap_map, List.map_filterMap, List.filterMap_map]
    rfl
  rw [ef2]
  have l1 : (hs.filterMap (f1 ws)).length ≤ 1000 := Nat.le_trans (List.length_filterMap_le _ _) gd.hl
  have l2 : ((ws.map (·.1)).filterMap (f2 hs)).length ≤ 1000 := Nat.le_trans (List.length_filterMap_le _ _) (by rw [List.length_map]; exact gd.wl)
  have ci := candL_iff nd rh (fun x m => (gd.wok x m).2.2.1)
  refine ⟨_, rfl, _, rfl, _, _, .inr rfl, .inr rfl, by rw [List.length_map, List.length_map, sizeLine_eq]; omega, _, candL ws hs, rfl, .inr (by rw [candL, List.map_append]), fun en => ?_, fun m hm hle => ?_⟩
  · exact h τ1 none fun p c => by
      have := (ci p).mpr c
      rw [en] at this
      cases this
  · exact h τ1 (some m) ⟨(ci m).mp hm, fun p' c => hle p' ((ci p').mpr c)⟩
end
end K36

set_option Elab.async false
set_option linter.all false
set_option maxRecDepth 100000
set_option maxHeartbeats 4000000
namespace K36
open PySem PySem.Spec PyProof.Rows L2 Dl
theorem range_at {n : Nat} {j : Nat} {d : D} (h : ((List.range n).map fun (k : Nat) => D.int (k : Int))[j]? = some d) : d = .int (j : Int) ∧ j < n := by
  rw [List.getElem?_map] at h
  obtain ⟨k, hk, rfl⟩ := Option.map_eq_some_iff.mp h
  have hl := (List.getElem?_eq_some_iff.mp hk).1
  rw [List.length_range] at hl
  rw [List.getElem?_range hl] at hk
  cases hk
  exact ⟨rfl, hl⟩
theorem es_map {ds es : List D} {f : D → D} (hl : es.length = ds.length) (h : ∀ (j : Nat) (e : D), es[j]? = some e → ∃ d, ds[j]? = some d ∧ e = f d) : es = ds.map f := by
  refine List.ext_getElem? fun j => ?_
  rw [List.getElem?_map]
  cases e : es[j]? with
  | none =>
    rw [List.getElem?_eq_none_iff] at e
    rw [List.getElem?_eq_none (by omega)]
    rfl
  | some v =>
    obtain ⟨d, h1, rfl⟩ := h j v e
    rw [h1]
    rfl
theorem ixNn {m n : Nat} (h : n < m) : L2.ixN m (n : Int) = some n := by
  unfold L2.ixN
  rw [if_pos (by omega), if_pos (by omega), Int.toNat_natCast]
theorem yIf_cut {c : Sy → TDT} {t u : TDSS Sy} {e : SEnds Sy} {τ : Sy} {ρ : DE} (y : u e τ ρ) (h : u e τ ρ → c τ ρ fun b => if b = true then t e τ ρ else u e τ ρ) : yIf c t u e τ ρ := h y
theorem erase_map {α β : Type} (f : α → β) : ∀ (l : List α) (k : Nat), (l.map f).eraseIdx k = (l.eraseIdx k).map f
  | [], _ => rfl
  | _ :: _, 0 => rfl
  | x :: l, k + 1 => by
    show f x :: (l.map f).eraseIdx k = f x :: (l.eraseIdx k).map f
    rw [erase_map f l k]
def boolOf : D → Bool
  | .tup [_, _, _, .bl b] => b
  | _ => false
def hdOf (d : D) : Hd := ((placeD d, strOf (txtD d)), boolOf d)
theorem hdOf_h (y : Hd) : hdOf (hD y) = y := rfl
theorem perm_h {hs : List Hd} {ys : List D} (pm : ys.Perm (hs.map hD)) : ∃ hs' : List Hd, ys = hs'.map hD ∧ hs'.Perm hs := by
  refine ⟨ys.map hdOf, ?_, ?_⟩
  · rw [List.map_map]
    refine (List.map_id ys).symm.trans (List.map_congr_left fun d hd => ?_)
    obtain ⟨y, _, rfl⟩ := List.mem_map.mp (pm.mem_iff.mp hd)
    rfl
  · have := pm.map hdOf
    rw [List.map_map] at this
    have e : hs.map (hdOf ∘ hD) = hs := (List.map_congr_left fun y _ => hdOf_h y).trans (List.map_id hs)
    rwa [e] at this
theorem sorted_h {hs : List Hd} (pw : (hs.map hD).Pairwise fun d e => PySem.W.dataLt e.py d.py = false) (nd : (hs.map (·.1.1)).Nodup) : Rs (hs.map (·.1.1)) := by
  rw [List.pairwise_map] at pw
  rw [Rs, List.pairwise_map]
  have nd' : hs.Pairwise fun a b => a.1.1 ≠ b.1.1 := List.pairwise_map.mp nd
  refine (pw.and nd').imp fun {a b} ⟨h1, h2⟩ => ?_
  have e : PySem.W.dataLt (hD b).py (hD a).py = ltZ (b.1.1.1, b.1.1.2) (a.1.1.1, a.1.1.2) := row_lt fun e => h2 (by rw [show a.1.1 = (a.1.1.1, a.1.1.2) from rfl, ← e])
  rw [e] at h1
  exact ltZ_tot h1 fun e => h2 e.symm
theorem rowOk_h {y : Hd} (h : WOk y.1) : rowOk (hD y) := by
  refine ⟨?_, Nat.le_of_ble_eq_true rfl, _, _, rfl⟩
  have e1 : D.plain (.int y.1.1.1) = true := int_plain (by have := h.1; omega) (by have := h.2.1; omega)
  have e2 : D.plain (.int y.1.1.2) = true := (ok_int (by have := h.2.2.1; omega) (by have := h.2.2.2.1; omega)).1
  have e3 := text_plain h.2.2.2.2
  simp only [hD, D.plain, D.plains] at e1 e2 e3 ⊢
  rw [e1, e2, e3]
  rfl
def Keep (τ τ' : Sy) : Prop := ∀ a o, sget τ a = some o → sget τ' a = some o
theorem Keep.push {τ τ' : Sy} {a : Addr} {o : SO} (k : Keep τ τ') (h : sget τ a = none) : Keep τ ((a, o) :: τ') := fun b u hb => by
  have ne : b ≠ a := fun e => by rw [e, h] at hb; cases hb
  rw [sget_ne ne]
  exact k b u hb
theorem none_of_keep {τ τ' : Sy} {a : Addr} (k : Keep τ τ') (h : sget τ' a = none) : sget τ a = none := by
  cases e : sget τ a with
  | none => rfl
  | some o => rw [k a o e] at h; cases h
theorem eqps_h : ∀ hs : List Hd, D.eqps (hs.map hD) = true
  | [] => by simp [D.eqps]
  | y :: hs => by
    rw [List.map_cons]
    simp [D.eqps, eqps_h hs, hD, D.eqp]
theorem plains_h : ∀ hs : List Hd, (∀ y ∈ hs, WOk y.1) → D.plains (hs.map hD) = true
  | [], _ => by simp [D.plains]
  | y :: hs, h => by
    have o := h y List.mem_cons_self
    have e1 : D.plain (.int y.1.1.1) = true := int_plain (by have := o.1; omega) (by have := o.2.1; omega)
    have e2 : D.plain (.int y.1.1.2) = true := (ok_int (by have := o.2.2.1; omega) (by have := o.2.2.2.1; omega)).1
    have e3 := text_plain o.2.2.2.2
    rw [List.map_cons]
    simp only [D.plains, plains_h hs fun z m => h z (List.mem_cons_of_mem _ m), hD, D.plain] at e1 e2 e3 ⊢
    rw [e1, e2, e3]
    rfl
theorem dps_h : ∀ hs : List Hd, D.dps (hs.map hD) ≤ 1
  | [] => by simp [D.dps]
  | y :: hs => by
    have := dps_h hs
    rw [List.map_cons]
    simp only [D.dps, hD, D.dp]
    omega
theorem shaped_h (hs : List Hd) (h : ∀ y ∈ hs, WOk y.1) : SeqAt.shaped (.list (D.pys (hs.map hD))) = true := shaped_ls (plains_h hs h) (eqps_h hs) (by have := dps_h hs; omega)
section
variable {P : Program} {w : World} {K : PySem.W.Frag} {mg : Str → Option Value} {base : Heap} {R0 : Res} {h0 : ∀ H, R0.Ss H}
/-- what was said: rising, of small numbers -/
structure Said (ws : List Wd) : Prop where
  ok : ∀ x ∈ ws, WOk x ∧ x.1.1 ≤ 200 ∧ x.1.2 ≤ 700
  rs : Rs (ws.map (·.1))
  len : ws.length ≤ 60
def FtoldR (a : Addr) : DCallY Sy := fun ds τ q _ => ds = [.ptr a] ∧ ∀ τ' ws, Keep τ τ' → Said ws → q τ' (.tup (ws.map wD))
theorem sc_law_told_rows : FnScope ["pot", "found", "turn", "number", "k"] ["pot"] (defScope s_law_told_rows) := ⟨rfl, rfl, rfl, by decide +kernel, rfl, by decide +kernel, by decide +kernel⟩
theorem ok_law_told_rows {a : Addr} (hp : PotAt a R0) {f : Addr} {fd : FuncData} (F : Fun K "_law_told_rows" "_law_told_rows" s_law_told_rows f fd) (T : Txt K mg) (D_law_pull : DefPot P w K mg base a "_law_pull" 1 (Fpull a)) (D_law_phrase : DefPot P w K mg base a "_law_phrase" 2 (Fphrase a)) : FnX P w K mg base 3 f fd ["pot"] (spY K (symF K R0 h0) (FtoldR a)) := by
  refine FunY.ok F sc_law_told_rows (fun ds τ q x ⟨h, _⟩ => by rw [h]; rfl) (fun cdv A outer s H E ds τ q x hr hgd h => ?_)
  obtain ⟨rfl, h⟩ := h
  have tk := takes_fn (N := ["pot", "found", "turn", "number", "k"]) (qual := "_law_told_rows") (scope := defScope s_law_told_rows) (f := f) (cdv := cdv) (A := A) (outer := outer) (s := s) (H := H) (E := E) (P := P) (w := w) (K := K) (mg := mg) (base := base)
  refine ⟨_, (ys_cons (y_par3 (i := 1) (j := 2) (l := 3) sc_law_told_rows.nd rfl (by decide) (by decide) (by decide) (ya_cons (c_lst ya_nil) (ya_cons (c_lift fun τ => (d_call (D_law_pull (hp.sym _)) (hr.mono (by omega)) hgd (a_cons (dv 0) (a_cons d_int a_nil)))) (ya_cons (c_lift fun τ => d_int) ya_nil)))) (ys_cons (y_for (i := 4) sc_law_told_rows.nd (passes_of rfl) rfl (yi_all fun τ => (i_range T.n_range (a_cons (d_ix (d_lst (a_cons (d_call (D_law_pull (hp.sym _)) (hr.mono (by omega)) hgd (a_cons (dv 0) (a_cons d_int a_nil))) (a_cons d_int a_nil))) (d_callTy cd_int call_int1 T.n_int (by decide +kernel) (a_cons (d_cmp opd_eq (opr_eq hr.units0) (d_call (D_law_pull (hp.sym _)) (hr.mono (by omega)) hgd (a_cons (dv 0) (a_cons d_int a_nil))) d_int) a_nil))) a_nil))) (ys_cons (y_setC (i := 3) sc_law_told_rows.nd (c_lift fun τ => (d_op opd_add opr_add (dv 3) (d_ix (d_lst (a_cons d_int (a_cons d_int (a_cons d_int (a_cons d_int (a_cons d_int a_nil)))))) (d_call (D_law_pull (hp.sym _)) (hr.mono (by omega)) hgd (a_cons (dv 0) (a_cons d_int a_nil))))))) (ys_cons (y_if (yt_all fun τ => (t_cmp opd_eq (opr_eq hr.units0) (d_call (D_law_pull (hp.sym _)) (hr.mono (by omega)) hgd (a_cons (dv 0) (a_cons d_int a_nil))) d_int)) (ys_one (y_par (i := 2) (j := 3) sc_law_told_rows.nd rfl (by decide) (ya_cons (c_lift fun τ => (d_op opd_add opr_add (d_op opd_add opr_add (dv 2) d_int) (d_call (D_law_pull (hp.sym _)) (hr.mono (by omega)) hgd (a_cons (dv 0) (a_cons d_int a_nil))))) (ya_cons (c_lift fun τ => (d_op opd_add opr_add d_int (d_call (D_law_pull (hp.sym _)) (hr.mono (by omega)) hgd (a_cons (dv 0) (a_cons d_int a_nil))))) ya_nil)))) ys_nil) (ys_one (y_exprC (c_append (fun τ => (dv 1)) (c_lift fun τ => (d_tup (a_cons (dv 2) (a_cons (dv 3) (a_cons (d_call (D_law_phrase (hp.sym _)) (hr.mono (by omega)) hgd (a_cons (dv 0) a_nil)) a_nil))))))))))) (ys_one (y_retC (c_lift fun τ => (d_callTy (cd_tupP symAt) call_tuple_of T.n_tuple (by decide +kernel) (a_cons (dv 1) a_nil))))))), ?_⟩
  refine ⟨by rw [sizeLine_eq]; simp, fun l nl => ⟨.ptr a, rfl, 3, rfl, by decide, by decide, fun t0 t00 t03 => ⟨_, _, _, rfl, ?_⟩⟩⟩
  refine ⟨.ptr a, rfl, 14, rfl, by decide, by decide, fun m m0 m14 => ⟨by rw [sizeLine_eq]; simp, .ptr a, rfl, 8, rfl, by decide, by decide, fun e0 _ _ => ⟨_, rfl, .inr ⟨_, rfl, ?_⟩⟩⟩⟩
  obtain ⟨n, hn, n0, n60⟩ : ∃ n : Int, atI [D.int m, .int 60] (b2z (e0 == 3)) = some (.int n) ∧ 0 ≤ n ∧ n ≤ 60 := by
    cases (e0 == 3)
    · exact ⟨m, rfl, m0, by omega⟩
    · exact ⟨60, rfl, by decide, by decide⟩
  refine ⟨_, rfl, .inl ⟨_, _, rfl, hn, n, rfl, by omega, by omega, ?_⟩⟩
  refine ⟨fun j τ' ρ' => Keep τ τ' ∧ ∃ (ws : List Wd) (t u : Int) (k : Option D), ρ' = [some (.ptr a), some (.ptr l), some (.int t), some (.int u), k] ∧ sget τ' l = some (.lst (ws.map wD)) ∧ (∀ x ∈ ws, (WOk x ∧ x.1.1 ≤ 200 ∧ x.1.2 ≤ 700) ∧ ltZ (t, u) x.1 = false) ∧ Rs (ws.map (·.1)) ∧ ws.length ≤ j ∧ 0 ≤ t ∧ t ≤ 2 + 2 * j ∧ 0 ≤ u ∧ u ≤ 3 + 7 * j, ⟨Keep.push (fun _ _ h => h) nl, [], t0, 0, none, rfl, sget_self, fun x m => (by cases m), .nil, Nat.zero_le _, t00, by omega, by omega, by omega⟩, ?_, ?_⟩
  · rintro j d τ1 ρ1 hj ⟨kp, ws, t, u, k, rfl, gl, hok, hrs, hlen, t1, t2, u1, u2⟩
    obtain ⟨rfl, hj'⟩ := range_at hj
    have hj60 : j < 60 := by omega
    refine ⟨_, rfl, by rw [sizeLine_eq]; simp, .ptr a, rfl, 5, rfl, by decide, by decide, fun c c0 c5 => ?_⟩
    obtain ⟨g, hg, g1, g7⟩ : ∃ g : Int, atI [D.int 1, .int 1, .int 1, .int 2, .int 7] c = some (.int g) ∧ 1 ≤ g ∧ g ≤ 7 := by
      have : c = 0 ∨ c = 1 ∨ c = 2 ∨ c = 3 ∨ c = 4 := by omega
      rcases this with rfl | rfl | rfl | rfl | rfl <;> exact ⟨_, rfl, by decide, by decide⟩
    refine ⟨c, rfl, .inl ⟨_, _, rfl, hg, ?_⟩⟩
    have push : ∀ (t' u' : Int), (t' = t ∧ u' = u + g) ∨ (t < t' ∧ t' ≤ t + 2 ∧ 1 ≤ u' ∧ u' ≤ 3) → ∀ τ', Keep τ τ' → sget τ' l = some (.lst (ws.map wD)) → ∀ (nx : Sy → DE → Prop), (∀ τ'' ρ'', (Keep τ τ'' ∧ ∃ (ws : List Wd) (t u : Int) (k : Option D), ρ'' = [some (.ptr a), some (.ptr l), some (.int t), some (.int u), k] ∧ sget τ'' l = some (.lst (ws.map wD)) ∧ (∀ x ∈ ws, (WOk x ∧ x.1.1 ≤ 200 ∧ x.1.2 ≤ 700) ∧ ltZ (t, u) x.1 = false) ∧ Rs (ws.map (·.1)) ∧ ws.length ≤ j + 1 ∧ 0 ≤ t ∧ t ≤ 2 + 2 * (j + 1 : Nat) ∧ 0 ≤ u ∧ u ≤ 3 + 7 * (j + 1 : Nat)) → nx τ'' ρ'') → ∀ y : Str, isText (.str y) = true → nx ((l, .lst (ws.map wD ++ [.tup [.int t', .int u', .str y]])) :: τ') [some (.ptr a), some (.ptr l), some (.int t'), some (.int u'), some (.int (j : Int))] := by
      intro t' u' htu τ' kp' gl' nx hnx y hy
      have low : ∀ x ∈ ws, ltZ x.1 (t', u') = true := fun x hx => by
        have h1 := (hok x hx).2
        rw [ltZ_no] at h1
        rw [ltZ_iff]
        simp only at h1 ⊢
        omega
      refine hnx _ _ ⟨kp'.push nl, ws ++ [((t', u'), y)], t', u', _, rfl, by rw [sget_self, List.map_append]; rfl, fun x hx => ?_, ?_, by rw [List.length_append]; simp; omega, by omega, by omega, by omega, by omega⟩
      · rcases List.mem_append.mp hx with m | m
        · exact ⟨(hok x m).1, ltZ_asym (low x m)⟩
        · rw [List.mem_singleton.mp m]
          exact ⟨⟨⟨by show 0 ≤ t'; omega, by show t' ≤ 999; omega, by show 1 ≤ u'; omega, by show u' ≤ 9999; omega, hy⟩, by show t' ≤ 200; omega, by show u' ≤ 700; omega⟩, ltZ_irr _⟩
      · rw [List.map_append, Rs, List.pairwise_append]
        refine ⟨hrs, List.pairwise_singleton _ _, fun p hp q hq => ?_⟩
        obtain ⟨x, hx, rfl⟩ := List.mem_map.mp hp
        rw [List.map_singleton, List.mem_singleton] at hq
        rw [hq]
        exact low x hx
    have hz : ∀ (y : Str), (ws.map wD).length < sizeLine := fun _ => by rw [List.length_map, sizeLine_eq]; omega
    refine ⟨.ptr a, rfl, 6, rfl, by decide, by decide, fun v _ _ => ⟨_, rfl, _, rfl, ?_⟩⟩
    refine ifB (fun _ => ?_) (fun _ => ?_)
    · refine ⟨_, rfl, .ptr a, rfl, 2, rfl, by decide, by decide, fun p p0 p2 => ⟨.ptr a, rfl, 3, rfl, by decide, by decide, fun r r0 r3 => ⟨_, _, rfl, ?_⟩⟩⟩
      refine ⟨_, rfl, l, _, rfl, gl, _, rfl, _, rfl, .ptr a, rfl, rfl, fun y hy => ⟨by rw [sizeLine_eq]; simp, _, gl, hz y, ?_⟩⟩
      exact push (t + 1 + p) (1 + r) (.inr ⟨by omega, by omega, by omega, by omega⟩) τ1 kp gl _ (fun _ _ h => h) y hy
    · refine ⟨_, rfl, l, _, rfl, gl, _, rfl, _, rfl, .ptr a, rfl, rfl, fun y hy => ⟨by rw [sizeLine_eq]; simp, _, gl, hz y, ?_⟩⟩
      exact push t (u + g) (.inl ⟨rfl, rfl⟩) τ1 kp gl _ (fun _ _ h => h) y hy
  · rintro τ1 ρ1 ⟨kp, ws, t, u, k, rfl, gl, hok, hrs, hlen, _⟩
    rw [List.length_map, List.length_range] at hlen
    exact ⟨_, rfl, l, _, rfl, gl, h _ ws kp ⟨fun x m => (hok x m).1, hrs, by omega⟩⟩
def FheardR (a : Addr) : DCallY Sy := fun ds τ q _ => ∃ ws, ds = [.ptr a, .tup (ws.map wD)] ∧ Said ws ∧ ∀ τ' (hs : List Hd), Keep τ τ' → (∀ y ∈ hs, WOk y.1) → Rs (hs.map (·.1.1)) → (∃ U : List (Int × Int), U.length ≤ 2 ∧ ∀ y ∈ hs, y.1.1 ∈ ws.map (·.1) ∨ y.1.1 ∈ U) → hs.length ≤ 62 → q τ' (.tup (hs.map hD))
theorem sc_law_heard_rows : FnScope ["pot", "told", "found", "short", "turn", "number", "phrase", "k", "pick", "here", "far", "part"] ["pot", "told"] (defScope s_law_heard_rows) := ⟨rfl, rfl, rfl, by decide +kernel, rfl, by decide +kernel, by decide +kernel⟩
theorem ok_law_heard_rows {a : Addr} (hp : PotAt a R0) {f : Addr} {fd : FuncData} (F : Fun K "_law_heard_rows" "_law_heard_rows" s_law_heard_rows f fd) (T : Txt K mg) (D_law_pull : DefPot P w K mg base a "_law_pull" 1 (Fpull a)) (D_law_phrase : DefPot P w K mg base a "_law_phrase" 2 (Fphrase a)) : FnX P w K mg base 3 f fd ["pot", "told"] (spY K (symF K R0 h0) (FheardR a)) := by
  refine FunY.ok F sc_law_heard_rows (fun ds τ q x ⟨_, h, _⟩ => by rw [h]; rfl) (fun cdv A outer s H E ds τ q x hr hgd h => ?_)
  obtain ⟨ws, rfl, hsd, h⟩ := h
  have tk := takes_fn (N := ["pot", "told", "found", "short", "turn", "number", "phrase", "k", "pick", "here", "far", "part"]) (qual := "_law_heard_rows") (scope := defScope s_law_heard_rows) (f := f) (cdv := cdv) (A := A) (outer := outer) (s := s) (H := H) (E := E) (P := P) (w := w) (K := K) (mg := mg) (base := base)
  refine ⟨_, (ys_cons (y_par (i := 2) (j := 3) sc_law_heard_rows.nd rfl (by decide) (ya_cons (c_lst ya_nil) (ya_cons c_dic ya_nil))) (ys_cons (y_forTup (is := [4, 5, 6]) (passes_of rfl) rfl (c_lift fun τ => (dv 1)) (pgs_cons (pg_name (i := 4) sc_law_heard_rows.nd rfl (Or.inl rfl)) (pgs_cons (pg_name (i := 5) sc_law_heard_rows.nd rfl (Or.inl rfl)) (pgs_cons (pg_name (i := 6) sc_law_heard_rows.nd rfl (Or.inl rfl)) pgs_nil))) (ys_cons (y_if (yt_all fun τ => (t_dnotin symAt (huY hr) (dv 4) (dv 3))) (ys_one (y_dput (huY hr) (fun τ => (dv 3)) (fun τ => (dv 4)) (c_lift fun τ => (d_ix (d_lst (a_cons d_int (a_cons d_int (a_cons (d_op opd_add opr_add (dv 5) (d_call (D_law_pull (hp.sym _)) (hr.mono (by omega)) hgd (a_cons (dv 0) (a_cons d_int a_nil)))) a_nil)))) (d_call (D_law_pull (hp.sym _)) (hr.mono (by omega)) hgd (a_cons (dv 0) (a_cons d_int a_nil))))))) ys_nil) (ys_one (y_if (yt_all fun τ => (t_cmp opd_cmpI op_le (dv 5) (d_dget symAt (huY hr) (dv 3) (dv 4)))) (ys_one (y_exprC (c_append (fun τ => (dv 2)) (c_lift fun τ => (d_tup (a_cons (dv 4) (a_cons (dv 5) (a_cons (dv 6) (a_cons (d_cmp opd_eq (opr_eq hr.units0) (d_call (D_law_pull (hp.sym _)) (hr.mono (by omega)) hgd (a_cons (dv 0) (a_cons d_int a_nil))) d_int) a_nil))))))))) ys_nil)))) (ys_cons (y_for (i := 4) sc_law_heard_rows.nd (passes_of rfl) rfl (yi_all fun τ => (i_range T.n_range (a_cons (d_op opd_int op_mul (d_ix (d_lst (a_cons d_int (a_cons d_int (a_cons d_int (a_cons d_int (a_cons d_int a_nil)))))) (d_call (D_law_pull (hp.sym _)) (hr.mono (by omega)) hgd (a_cons (dv 0) (a_cons d_int a_nil)))) (d_callTy cd_int call_int1 T.n_int (by decide +kernel) (a_cons (d_cmp (opd_neLPE symAt) (op_neD hr.units) (dv 2) (d_lst a_nil)) a_nil))) a_nil))) (ys_cons (y_par (i := 7) (j := 8) sc_law_heard_rows.nd rfl (by decide) (ya_cons (c_lift fun τ => (d_call (D_law_pull (hp.sym _)) (hr.mono (by omega)) hgd (a_cons (dv 0) (a_cons (d_callB (cd_lenP symAt) call_len T.n_len (by decide +kernel) (a_cons (dv 2) a_nil)) a_nil)))) (ya_cons (c_lift fun τ => (d_call (D_law_pull (hp.sym _)) (hr.mono (by omega)) hgd (a_cons (dv 0) (a_cons d_int a_nil)))) ya_nil))) (ys_cons (y_setC (i := 9) sc_law_heard_rows.nd (c_lift fun τ => (d_ixY symAt (dv 2) (dv 7)))) (ys_one (y_if (yt_all fun τ => (t_cmp opd_eq (opr_eq hr.units0) (dv 8) d_int)) (ys_one (y_lput (fun τ => (dv 2)) (fun τ => (dv 7)) (c_lift fun τ => (d_op opd_add opr_add (d_slice (dv 9) o_none (o_some d_int)) (d_tup (a_cons (d_call (D_law_phrase (hp.sym _)) (hr.mono (by omega)) hgd (a_cons (dv 0) a_nil)) (a_cons (d_ix (dv 9) d_int) a_nil))))))) (ys_one (y_if (yt_all fun τ => (PW.pt (t_and (t_cmp opd_eq (opr_eq hr.units0) (dv 8) d_int) (t_and1 (t_cmp opd_cmpI op_gt (d_callB (cd_lenP symAt) call_len T.n_len (by decide +kernel) (a_cons (dv 2) a_nil)) d_int))))) (ys_one (y_exprC (c_popK (fun τ => (dv 2)) (fun τ => (dv 7))))) (ys_cons (y_setC (i := 10) sc_law_heard_rows.nd (c_lift fun τ => (d_tup (a_cons (d_ix (dv 9) d_int) (a_cons (d_op opd_add opr_add (d_op opd_add opr_add (d_ix (dv 9) d_int) d_int) (d_call (D_law_pull (hp.sym _)) (hr.mono (by omega)) hgd (a_cons (dv 0) (a_cons d_int a_nil)))) (a_cons (d_call (D_law_phrase (hp.sym _)) (hr.mono (by omega)) hgd (a_cons (dv 0) a_nil)) (a_cons d_bl a_nil))))))) (ys_one (y_if (yt_all fun τ => (t_cmp opd_notInP (op_notInD (hu65 hr)) (d_slice (dv 10) o_none (o_some d_int)) (d_lcP (i := 11) rfl sc_law_heard_rows.nd (i_lstP symAt symP (dv 2)) (blkOk_by (own := [("part", 11)]) (N := ["pot", "told", "found", "short", "turn", "number", "phrase", "k", "pick", "here", "far", "part"]) (sc := defScope s_law_heard_rows) (by decide +kernel)) (fun _ _ _ _ _ => pg_name (i := 11) sc_law_heard_rows.nd rfl (Or.inl rfl)) (fun _ _ _ _ _ A => (d_slice (dv 11) o_none (o_some d_int)))))) (ys_one (y_setC (i := 2) sc_law_heard_rows.nd (c_sortO T.n_sorted hr.units (ya_cons (c_lift fun τ => (d_op (opd_addPL symAt) op_cat (dv 2) (d_lst (a_cons (dv 10) a_nil)))) ya_nil)))) ys_nil)))))))))) (ys_one (y_retC (c_lift fun τ => (d_callTy (cd_tupP symAt) call_tuple_of T.n_tuple (by decide +kernel) (a_cons (dv 2) a_nil)))))))), ?_⟩
  refine ⟨by rw [sizeLine_eq]; simp, fun l nl e ne => ⟨_, _, rfl, ?_⟩⟩
  have nle : l ≠ e := fun h => by rw [← h, sget_self] at ne; cases ne
  have kpl : Keep τ ((l, .lst []) :: τ) := Keep.push (fun _ _ h => h) nl
  have nte : sget τ e = none := none_of_keep kpl ne
  have kp0 : Keep τ ((e, .dic []) :: (l, .lst []) :: τ) := kpl.push nte
  refine ⟨_, rfl, ws.map (fun x => [D.int x.1.1, D.int x.1.2, D.str x.2]), iteF (by rw [List.map_map]; rfl), fun r m => ?_, ?_⟩
  · obtain ⟨x, _, rfl⟩ := List.mem_map.mp m
    rfl
  refine ⟨fun j τ' ρ' => Keep τ τ' ∧ ∃ (hs : List Hd) (E : List (Key × D)) (t u p : Option D), ρ' = [some (.ptr a), some (.tup (ws.map wD)), some (.ptr l), some (.ptr e), t, u, p, none, none, none, none, none] ∧ sget τ' l = some (.lst (hs.map hD)) ∧ sget τ' e = some (.dic E) ∧ AllInts E ∧ E.length ≤ j ∧ (hs.map (·.1)).Sublist (ws.take j), ⟨kp0, [], [], none, none, none, rfl, by rw [sget_ne nle, sget_self]; rfl, sget_self, fun x m => (by cases m), Nat.zero_le _, by simp⟩, ?_, ?_⟩
  · rintro j r τ1 ρ1 hj ⟨kp, hs, E, t, u, p, rfl, gl, gE, ai, lE, sub⟩
    rw [List.getElem?_map] at hj
    obtain ⟨x, hx, rfl⟩ := Option.map_eq_some_iff.mp hj
    have hjl : j < ws.length := (List.getElem?_eq_some_iff.mp hx).1
    have hlen := hsd.len
    have ht : ws.take (j + 1) = ws.take j ++ [x] := by rw [List.take_add_one, hx]; rfl
    have hz : E.length < sizeLine := by rw [sizeLine_eq]; omega
    refine seq_cut (fun τ' ρ' => Keep τ τ' ∧ ρ' = [some (.ptr a), some (.tup (ws.map wD)), some (.ptr l), some (.ptr e), some (.int x.1.1), some (.int x.1.2), some (.str x.2), none, none, none, none, none] ∧ sget τ' l = some (.lst (hs.map hD)) ∧ ∃ E', sget τ' e = some (.dic E') ∧ AllInts E' ∧ E'.length ≤ j + 1 ∧ ∃ v : Int, valD E' (.inl x.1.1) = some (.int v)) ?_ ?_
    case refine_2 =>
      intro nx hnx
      refine ⟨_, rfl, _, rfl, e, E, .inl x.1.1, rfl, gE, rfl, _, rfl, ?_⟩
      refine ifB (fun _ => ?_) (fun hb => ?_)
      · refine ⟨_, rfl, .ptr a, rfl, 9, rfl, by decide, by decide, fun g g0 g9 => ⟨by rw [sizeLine_eq]; simp, .ptr a, rfl, 3, rfl, by decide, by decide, fun c c0 c3 => ?_⟩⟩
        obtain ⟨v, hv⟩ : ∃ v : Int, atI [D.int 99999, .int 99999, .int (x.1.2 + g)] c = some (.int v) := by
          have : c = 0 ∨ c = 1 ∨ c = 2 := by omega
          rcases this with rfl | rfl | rfl <;> exact ⟨_, rfl⟩
        refine ⟨c, rfl, .inl ⟨_, _, rfl, hv, _, rfl, _, rfl, e, E, .inl x.1.1, rfl, gE, rfl, hz, hnx _ _ ⟨kp.push nte, rfl, by rw [sget_ne nle]; exact gl, _, sget_self, putKD_all ai, by have := putKD_len E (.inl x.1.1) (.int v); omega, v, vp_eq⟩⟩⟩
      · have hb : (!(valD E (.inl x.1.1)).isSome) = false := hb
        obtain ⟨d, hd⟩ : ∃ d, valD E (.inl x.1.1) = some d := by
          cases ev : valD E (.inl x.1.1) with
          | none => rw [ev] at hb; cases hb
          | some d => exact ⟨d, rfl⟩
        obtain ⟨y, hy, ey⟩ := valD_mem hd
        obtain ⟨v, ev⟩ := ai y hy
        exact hnx _ _ ⟨kp, rfl, gl, E, gE, ai, by omega, v, by rw [hd, ← ey, ev]⟩
    rintro τ2 ρ2 ⟨kp2, rfl, gl, E', gE', ai', lE', v, hv⟩
    have hzl : (hs.map hD).length < sizeLine := by
      have := sub.length_le
      rw [List.length_map, List.length_take] at this
      rw [List.length_map, sizeLine_eq]
      omega
    refine ⟨_, rfl, _, rfl, _, rfl, e, E', .inl x.1.1, .int v, rfl, gE', rfl, hv, _, _, rfl, rfl, trivial, _, rfl, ?_⟩
    refine ifB (fun _ => ?_) (fun _ => ?_)
    · refine ⟨_, rfl, l, _, rfl, gl, _, rfl, _, rfl, _, rfl, .ptr a, rfl, 4, rfl, by decide, by decide, fun z z0 z4 => ⟨_, rfl, by rw [sizeLine_eq]; simp, _, gl, hzl, ?_⟩⟩
      refine ⟨kp2.push nl, hs ++ [(x, z == 0)], E', _, _, _, rfl, by rw [sget_self, List.map_append]; rfl, by rw [sget_ne nle.symm]; exact gE', ai', lE', ?_⟩
      rw [ht, List.map_append]
      exact sub.append (List.Sublist.refl _)
    · refine ⟨kp2, hs, E', _, _, _, rfl, gl, gE', ai', lE', ?_⟩
      rw [ht]
      exact sub.trans (List.sublist_append_left _ _)
  rintro τ1 ρ1 ⟨kp1, hs, E, t, u, p, rfl, gl, gE, _, _, sub⟩
  have hlen := hsd.len
  have sub : (hs.map (·.1)).Sublist ws := by
    rw [List.length_map, List.take_length] at sub
    exact sub
  have hsl : hs.length ≤ 60 := by
    have := sub.length_le
    rw [List.length_map] at this
    omega
  have hsW : ∀ y ∈ hs, y.1 ∈ ws := fun y hy => sub.subset (List.mem_map.mpr ⟨y, hy, rfl⟩)
  have rsH : Rs (hs.map (·.1.1)) := by
    have := List.Pairwise.sublist (R := fun a b => ltZ a b = true) (sub.map (fun x : Wd => x.1)) hsd.rs
    rwa [List.map_map] at this
  have epH := eqps_h hs
  have shH := shaped_h hs fun y hy => (hsd.ok _ (hsW y hy)).1
  refine ⟨by rw [sizeLine_eq]; simp, .ptr a, rfl, 5, rfl, by decide, by decide, fun c c0 c5 => ?_⟩
  obtain ⟨g, hg, g0, g2⟩ : ∃ g : Int, atI [D.int 0, .int 0, .int 1, .int 1, .int 2] c = some (.int g) ∧ 0 ≤ g ∧ g ≤ 2 := by
    have : c = 0 ∨ c = 1 ∨ c = 2 ∨ c = 3 ∨ c = 4 := by omega
    rcases this with rfl | rfl | rfl | rfl | rfl <;> exact ⟨_, rfl, by decide, by decide⟩
  refine ⟨c, rfl, .inl ⟨_, _, rfl, hg, _, rfl, by rw [sizeLine_eq]; simp, l, hs.map hD, [], rfl, gl, .inl rfl, epH, by simp [D.eqps], shH, by decide +kernel, .inr ⟨_, rfl, g, _, rfl, rfl, .inr ?_, _, rfl, ?_⟩⟩⟩
  · cases (if true = true then !(PyData.list (D.pys (hs.map hD))).eqv (PyData.list (D.pys [])) else (PyData.list (D.pys (hs.map hD))).eqv (PyData.list (D.pys []))) <;> decide
  obtain ⟨n, en, n0, n2, nn⟩ : ∃ n : Int, g * b2z (if true = true then !(PyData.list (D.pys (hs.map hD))).eqv (PyData.list (D.pys [])) else (PyData.list (D.pys (hs.map hD))).eqv (PyData.list (D.pys []))) = n ∧ 0 ≤ n ∧ n ≤ 2 ∧ (hs = [] → n = 0) := by
    refine ⟨_, rfl, ?_⟩
    cases hs with
    | nil =>
      have e : (PyData.list (D.pys (([] : List Hd).map hD))).eqv (PyData.list (D.pys [])) = true := by decide +kernel
      rw [e]
      exact ⟨by show 0 ≤ g * 0; omega, by show g * 0 ≤ 2; omega, fun _ => by show g * 0 = 0; omega⟩
    | cons y hs =>
      cases (if true = true then !(PyData.list (D.pys ((y :: hs).map hD))).eqv (PyData.list (D.pys [])) else (PyData.list (D.pys ((y :: hs).map hD))).eqv (PyData.list (D.pys [])))
      · exact ⟨by show 0 ≤ g * 0; omega, by show g * 0 ≤ 2; omega, fun e => by cases e⟩
      · exact ⟨by show 0 ≤ g * 1; omega, by show g * 1 ≤ 2; omega, fun e => by cases e⟩
  rw [en]
  refine ⟨by omega, by omega, ?_⟩
  refine ⟨fun j τ' ρ' => Keep τ τ' ∧ ∃ (hs : List Hd) (l' : Addr) (U : List (Int × Int)) (v4 v7 v8 v9 v10 : Option D), ρ' = [some (.ptr a), some (.tup (ws.map wD)), some (.ptr l'), some (.ptr e), v4, u, p, v7, v8, v9, v10, none] ∧ sget τ' l' = some (.lst (hs.map hD)) ∧ sget τ l' = none ∧ (hs = [] → n = 0) ∧ (∀ y ∈ hs, WOk y.1 ∧ y.1.1.2 ≤ 700 + 4 * j) ∧ Rs (hs.map (·.1.1)) ∧ U.length ≤ j ∧ (∀ y ∈ hs, y.1.1 ∈ ws.map (·.1) ∨ y.1.1 ∈ U) ∧ hs.length ≤ 60 + j, ⟨kp1, hs, l, [], _, _, _, _, _, rfl, gl, nl, nn, fun y hy => ⟨(hsd.ok _ (hsW y hy)).1, by have := (hsd.ok _ (hsW y hy)).2.2; omega⟩, rsH, Nat.le_refl _, fun y hy => .inl (List.mem_map.mpr ⟨_, hsW y hy, rfl⟩), by omega⟩, ?_, ?_⟩
  · clear gl sub hsl hsW rsH epH shH en nn
    rintro j d τ2 ρ2 hj ⟨kp, hs, l', U, v4, v7, v8, v9, v10, rfl, gl, nl', nn, hok, hrs, hU, hin, hlen'⟩
    obtain ⟨rfl, hj'⟩ := range_at hj
    have hpos : 0 < hs.length := by
      cases hs with
      | nil => have := nn rfl; omega
      | cons y hs => simp
    refine ⟨.ptr a, rfl, _, rfl, l', _, rfl, gl, _, rfl, by rw [List.length_map]; omega, by rw [List.length_map]; omega, fun k k0 k1 => ⟨.ptr a, rfl, 3, rfl, by decide, by decide, fun pk pk0 pk3 => ⟨_, _, rfl, ?_⟩⟩⟩
    rw [List.length_map] at k1
    obtain ⟨kk, rfl⟩ : ∃ m : Nat, k = (m : Int) := ⟨k.toNat, by omega⟩
    have hkl : kk < hs.length := by omega
    obtain ⟨y, hy⟩ : ∃ y, hs[kk]? = some y := ⟨_, List.getElem?_eq_getElem hkl⟩
    have ym : y ∈ hs := List.mem_of_getElem? hy
    have hd : (hs.map hD)[kk]? = some (hD y) := by rw [List.getElem?_map, hy]; rfl
    obtain ⟨yo, yb⟩ := hok y ym
    have mono : ∀ z ∈ hs, WOk z.1 ∧ z.1.1.2 ≤ 700 + 4 * ((j + 1 : Nat) : Int) := fun z hz => ⟨(hok z hz).1, by have := (hok z hz).2; omega⟩
    refine ⟨_, rfl, _, rfl, _, rfl, _, _, .inr ⟨l', rfl, gl⟩, atI_nat hd, ?_⟩
    refine ⟨_, rfl, _, rfl, _, rfl, ?_⟩
    refine ifB (fun _ => ?_) (fun _ => ?_)
    · refine ⟨_, rfl, 2, rfl, ?_⟩
      dsimp only
      rw [slice_h]
      refine ⟨.ptr a, rfl, rfl, fun ph hph => ⟨_, rfl, 3, rfl, .inl ⟨_, .bl y.2, rfl, atI_nat (j := 3) rfl, by rw [sizeLine_eq]; simp, by rw [sizeLine_eq]; simp, _, rfl, _, rfl, l', _, (kk : Int), kk, rfl, gl, rfl, ixNn (by rw [List.length_map]; exact hkl), ?_⟩⟩⟩
      have ek : (hs.set kk ((y.1.1, ph), y.2)).map (·.1.1) = hs.map (·.1.1) := by
        rw [List.map_set]
        refine List.ext_getElem? fun i => ?_
        rw [List.getElem?_set]
        split
        · rename_i e
          subst e
          split
          · rw [List.getElem?_map, hy]; rfl
          · rename_i h; exact absurd (by rw [List.length_map]; exact hkl) h
        · rfl
      have mem' : ∀ z ∈ hs.set kk ((y.1.1, ph), y.2), z ∈ hs ∨ z = ((y.1.1, ph), y.2) := fun z hz => List.mem_or_eq_of_mem_set hz
      refine ⟨kp.push nl', hs.set kk ((y.1.1, ph), y.2), l', U, _, _, _, _, _, rfl, by rw [sget_self, List.map_set]; rfl, nl', fun e => ?_, fun z hz => ?_, by rw [ek]; exact hrs, by omega, fun z hz => ?_, by rw [List.length_set]; omega⟩
      · have := congrArg List.length e
        rw [List.length_set, List.length_nil] at this
        omega
      · rcases mem' z hz with m | rfl
        · exact mono z m
        · exact ⟨⟨yo.1, yo.2.1, yo.2.2.1, yo.2.2.2.1, hph⟩, by show y.1.1.2 ≤ _; omega⟩
      · rcases mem' z hz with m | rfl
        · exact hin z m
        · exact hin y ym
    · refine yIf_cut ?_ (fun far => ?_)
      · refine ⟨_, rfl, 0, rfl, .inl ⟨_, .int y.1.1.1, rfl, atI_nat (j := 0) rfl, _, rfl, 1, rfl, .inl ⟨_, .int y.1.1.2, rfl, atI_nat (j := 1) rfl, .ptr a, rfl, 3, rfl, by decide, by decide, fun pp p0 p3 => ⟨.ptr a, rfl, rfl, fun ph hph => ⟨by rw [sizeLine_eq]; simp, ?_⟩⟩⟩⟩⟩
        have fo : WOk ((y.1.1.1, y.1.1.2 + 1 + pp), ph) := ⟨yo.1, yo.2.1, by have := yo.2.2.1; show 1 ≤ y.1.1.2 + 1 + pp; omega, by show y.1.1.2 + 1 + pp ≤ 9999; omega, hph⟩
        refine ⟨_, rfl, 2, rfl, _, rfl, l', _, rfl, gl, by rw [List.length_map, sizeLine_eq]; omega, fun i d => ∃ d', (hs.map hD)[i]? = some d' ∧ d = Dl.pairD (placeD d'), fun i d' hd' => ?_, fun es hl hP => ?_⟩
        · obtain ⟨z, hz, rfl⟩ := List.mem_map.mp (List.mem_of_getElem? hd')
          refine ⟨_, rfl, 2, rfl, ?_⟩
          dsimp only
          rw [slice_h]
          exact ⟨_, hd', rfl⟩
        rw [es_map hl hP]
        refine ⟨(y.1.1.1, y.1.1.2 + 1 + pp), hs.map (·.1.1), by show D.tup (Dl.cutD [.int y.1.1.1, .int (y.1.1.2 + 1 + pp), .str ph, .bl false] none (some 2)) = _; rw [cut2]; rfl, .inr (by rw [List.map_map, List.map_map]; rfl), _, rfl, ?_⟩
        refine ifB (fun hb => ?_) (fun _ => ⟨kp, hs, l', U, _, _, _, _, _, rfl, gl, nl', nn, mono, hrs, by omega, hin, by omega⟩)
        have nin : (y.1.1.1, y.1.1.2 + 1 + pp) ∉ hs.map (·.1.1) := fun m => by
          rw [if_pos rfl, decide_eq_true m] at hb
          cases hb
        have all' : ∀ z ∈ hs ++ [(((y.1.1.1, y.1.1.2 + 1 + pp), ph), false)], WOk z.1 ∧ z.1.1.2 ≤ 700 + 4 * ((j + 1 : Nat) : Int) := fun z hz => by
          rcases List.mem_append.mp hz with m | m
          · exact mono z m
          · rw [List.mem_singleton.mp m]
            exact ⟨fo, by show y.1.1.2 + 1 + pp ≤ _; omega⟩
        have eq : hs.map hD ++ [D.tup [.int y.1.1.1, .int (y.1.1.2 + 1 + pp), .str ph, .bl false]] = (hs ++ [(((y.1.1.1, y.1.1.2 + 1 + pp), ph), false)]).map hD := by
          rw [List.map_append]; rfl
        refine ⟨_, rfl, _, rfl, by rw [sizeLine_eq]; simp, l', _, _, rfl, gl, .inl rfl, by rw [List.length_map, sizeLine_eq]; simp; omega, ?_⟩
        rw [eq]
        refine ⟨_, _, rfl, .inr rfl, fun d hd => ?_, fun d hd d' hd' => ?_, fun g ys pm pw ng => ?_⟩
        · obtain ⟨z, hz, rfl⟩ := List.mem_map.mp hd
          exact rowOk_h (all' z hz).1
        · obtain ⟨z, hz, rfl⟩ := List.mem_map.mp hd
          obtain ⟨z', hz', rfl⟩ := List.mem_map.mp hd'
          rfl
        · obtain ⟨hs', rfl, pm'⟩ := perm_h pm
          have nd : ((hs ++ [(((y.1.1.1, y.1.1.2 + 1 + pp), ph), false)]).map (·.1.1)).Nodup := by
            rw [List.map_append, List.nodup_append]
            refine ⟨hrs.nodup, by simp, fun p hp q hq e => ?_⟩
            rw [List.map_singleton, List.mem_singleton] at hq
            have e' : p = (y.1.1.1, y.1.1.2 + 1 + pp) := e.trans hq
            exact nin (e' ▸ hp)
          refine ⟨kp.push (none_of_keep kp ng), hs', g, (y.1.1.1, y.1.1.2 + 1 + pp) :: U, _, _, _, _, _, rfl, sget_self, none_of_keep kp ng, fun e => ?_, fun z hz => all' z (pm'.mem_iff.mp hz), sorted_h pw ((pm'.map _).nodup_iff.mpr nd), by simp; omega, fun z hz => ?_, ?_⟩
          · have := pm'.length_eq
            rw [e] at this
            simp at this
          · rcases List.mem_append.mp (pm'.mem_iff.mp hz) with m | m
            · exact (hin z m).imp id fun m => List.mem_cons_of_mem _ m
            · rw [List.mem_singleton.mp m]
              exact .inr List.mem_cons_self
          · have := pm'.length_eq
            rw [List.length_append] at this
            simp at this
            omega
      · refine ⟨_, rfl, _, rfl, _, rfl, ?_⟩
        refine ifB (fun _ => ?_) (fun _ => iteF far)
        refine ⟨_, rfl, l', _, rfl, gl, _, _, rfl, rfl, trivial, _, rfl, ?_⟩
        refine ifB (fun hb => ?_) (fun _ => far)
        have h2 : 1 < hs.length := by
          have := of_decide_eq_true hb
          rw [List.length_map] at this
          omega
        refine ⟨_, rfl, l', _, rfl, gl, _, rfl, kk, hD y, rfl, hd, by omega, ?_⟩
        have sb : (hs.eraseIdx kk).Sublist hs := List.eraseIdx_sublist hs kk
        refine ⟨kp.push nl', hs.eraseIdx kk, l', U, _, _, _, _, _, rfl, by rw [sget_self, erase_map], nl', fun e => ?_, fun z hz => mono z (sb.subset hz), List.Pairwise.sublist (R := fun a b => ltZ a b = true) (sb.map (fun z : Hd => z.1.1)) hrs, by omega, fun z hz => hin z (sb.subset hz), by have := sb.length_le; omega⟩
        have := congrArg List.length e
        rw [List.length_eraseIdx_of_lt hkl, List.length_nil] at this
        omega
  · rintro τ2 ρ2 ⟨kp, hs, l', U, v4, v7, v8, v9, v10, rfl, gl, nl', nn, hok, hrs, hU, hin, hlen'⟩
    rw [List.length_map, List.length_range] at hU hlen' hok
    exact ⟨_, rfl, l', _, rfl, gl, h τ2 hs kp (fun y hy => (hok y hy).1) hrs ⟨U, by omega, hin⟩ (by omega)⟩
end
end K36

set_option Elab.async false
set_option linter.all false
set_option maxRecDepth 100000
set_option maxHeartbeats 4000000
namespace K36
open PySem PySem.Spec PyProof.Rows L2 Dl
theorem cand_ps {ws : List Wd} {hs : List Hd} {p : Int × Int} (c : Cand ws hs p) : p ∈ ws.map (·.1) ++ hs.map (·.1.1) := by
  rcases c with ⟨y, hy, rfl, _⟩ | ⟨x, hx, rfl, _⟩
  · exact List.mem_append_right _ (List.mem_map.mpr ⟨y, hy, rfl⟩)
  · exact List.mem_append_left _ (List.mem_map.mpr ⟨x, hx, rfl⟩)
theorem key_uniq {hs : List Hd} (rh : Rs (hs.map (·.1.1))) {y z : Hd} (hy : y ∈ hs) (hz : z ∈ hs) (e : y.1.1 = z.1.1) : y = z := by
  induction hs with
  | nil => cases hy
  | cons a hs ih =>
    have h1 := rh.ne
    have rt : Rs (hs.map (·.1.1)) := (List.pairwise_cons.mp rh).2
    rcases List.mem_cons.mp hy with ey | my <;> rcases List.mem_cons.mp hz with ez | mz
    · rw [ey, ez]
    · rw [ey] at e
      exact absurd e.symm (h1 _ (List.mem_map.mpr ⟨z, mz, rfl⟩)).2
    · rw [ez] at e
      exact absurd e (h1 _ (List.mem_map.mpr ⟨y, my, rfl⟩)).2
    · exact ih rt my mz
theorem cand_in {ws : List Wd} {hs : List Hd} (rh : Rs (hs.map (·.1.1))) {y : Hd} (hy : y ∈ hs) : Cand ws hs y.1.1 ↔ ¬ ∃ x ∈ ws, x.1 = y.1.1 ∧ x.2 = y.1.2 := by
  constructor
  · rintro (⟨z, hz, e, no⟩ | ⟨x, hx, e, no, _⟩)
    · rw [← key_uniq rh hz hy e]; exact no
    · exact absurd rfl (no y hy)
  · exact fun no => .inl ⟨y, hy, rfl, no⟩
theorem cand_out {ws : List Wd} {hs : List Hd} {x : Wd} (hx : x ∈ ws) (no : x.1 ∉ hs.map (·.1.1)) : Cand ws hs x.1 ↔ ∃ y ∈ hs, y.1.1.1 = x.1.1 ∧ x.1.2 < y.1.1.2 := by
  constructor
  · rintro (⟨z, hz, e, _⟩ | ⟨x', hx', e, _, y, hy, e1, e2⟩)
    · exact absurd (List.mem_map.mpr ⟨z, hz, e⟩) no
    · exact ⟨y, hy, e1, e2⟩
  · rintro ⟨y, hy, e1, e2⟩
    exact .inr ⟨x, hx, rfl, fun z hz e => no (List.mem_map.mpr ⟨z, hz, e⟩), y, hy, e1, e2⟩
theorem first_at {ws : List Wd} {hs : List Hd} {qs : List (Int × Int)} (pw : qs.Pairwise fun a b => ltZ a b = true) (mem : ∀ p, Cand ws hs p → p ∈ qs) {j : Nat} {s : Int × Int} (hj : qs[j]? = some s) (no : ∀ (i : Nat) p, i < j → qs[i]? = some p → ¬ Cand ws hs p) (c : Cand ws hs s) : FirstP ws hs (some s) := by
  refine ⟨c, fun p' c' => ?_⟩
  obtain ⟨i, hi⟩ := List.getElem?_of_mem (mem p' c')
  rcases Nat.lt_trichotomy i j with lt | rfl | gt
  · exact absurd c' (no i p' lt hi)
  · rw [hi] at hj
    cases hj
    exact ltZ_irr _
  · obtain ⟨l1, e1⟩ := List.getElem?_eq_some_iff.mp hj
    obtain ⟨l2, e2⟩ := List.getElem?_eq_some_iff.mp hi
    have := List.pairwise_iff_getElem.mp pw j i l1 l2 gt
    rw [e1, e2] at this
    exact ltZ_asym this
def laterF (s : Int × Int) (p : Int × Int) : Option (Int × Int) := if p.1 = s.1 ∧ s.2 < p.2 then some p else none
def laterG (s : Int × Int) (d : D) : Option D := (laterF s (placeD d)).map Dl.pairD
theorem later_iff {hs : List Hd} {s : Int × Int} : (hs.map (·.1.1)).filterMap (laterF s) ≠ [] ↔ ∃ y ∈ hs, y.1.1.1 = s.1 ∧ s.2 < y.1.1.2 := by
  constructor
  · intro ne
    obtain ⟨p, hp⟩ := List.exists_mem_of_ne_nil _ ne
    obtain ⟨q, hq, e⟩ := List.mem_filterMap.mp hp
    obtain ⟨y, hy, rfl⟩ := List.mem_map.mp hq
    unfold laterF at e
    split at e
    · rename_i h; exact ⟨y, hy, h⟩
    · cases e
  · rintro ⟨y, hy, h⟩ e
    have : y.1.1 ∈ (hs.map (·.1.1)).filterMap (laterF s) := List.mem_filterMap.mpr ⟨y.1.1, List.mem_map.mpr ⟨y, hy, rfl⟩, if_pos h⟩
    rw [e] at this
    cases this
section
variable {P : Program} {w : World} {K : PySem.W.Frag} {mg : Str → Option Value} {base : Heap} {R0 : Res} {h0 : ∀ H, R0.Ss H}
/-- few different places -/
def Few (ws : List Wd) (hs : List Hd) : Prop := ∃ U : List (Int × Int), U.length ≤ 62 ∧ (∀ x ∈ ws, x.1 ∈ U) ∧ ∀ y ∈ hs, y.1.1 ∈ U
def FpartingY : DCallY Sy := fun ds τ q _ => ∃ (ws : List Wd) (hs : List Hd), ds = [.tup (ws.map wD), .tup (hs.map hD)] ∧ GoodR ws hs ∧ Few ws hs ∧ ∀ τ' o, FirstP ws hs o → q τ' (optD o)
theorem sc_law_parting : FnScope ["told", "heard_rows", "spots", "phrases", "taken", "spot", "later", "part", "other"] ["told", "heard_rows"] (defScope s_law_parting) := ⟨rfl, rfl, rfl, by decide +kernel, rfl, by decide +kernel, by decide +kernel⟩
theorem ok_law_parting {f : Addr} {fd : FuncData} (F : Fun K "_law_parting" "_law_parting" s_law_parting f fd) (T : Txt K mg) : FnX P w K mg base 2 f fd ["told", "heard_rows"] (spY K (symF K R0 h0) FpartingY) := by
  refine FunY.ok F sc_law_parting (fun ds τ q x ⟨_, _, h, _⟩ => by rw [h]; rfl) (fun cdv A outer s H E ds τ q x hr hgd h => ?_)
  obtain ⟨ws, hs, rfl, gd, ⟨U, hU, hUw, hUh⟩, h⟩ := h
  have tk := takes_fn (N := ["told", "heard_rows", "spots", "phrases", "taken", "spot", "later", "part", "other"]) (qual := "_law_parting") (scope := defScope s_law_parting) (f := f) (cdv := cdv) (A := A) (outer := outer) (s := s) (H := H) (E := E) (P := P) (w := w) (K := K) (mg := mg) (base := base)
  refine ⟨_, (ys_cons (y_setC (i := 2) sc_law_parting.nd (c_lift fun τ => (d_sortSet rfl hr.units T.n_sorted T.n_set (a_cons (d_op opd_addL op_cat (d_lc (i := 7) rfl sc_law_parting.nd (i_tup (dv 0)) (blkOk_by (own := [("part", 7)]) (N := ["told", "heard_rows", "spots", "phrases", "taken", "spot", "later", "part", "other"]) (sc := defScope s_law_parting) (by decide +kernel)) (fun _ _ _ _ _ => pg_name (i := 7) sc_law_parting.nd rfl (Or.inl rfl)) (fun _ _ _ _ _ A => (d_slice (dv 7) o_none (o_some d_int)))) (d_lc (i := 7) rfl sc_law_parting.nd (i_tup (dv 1)) (blkOk_by (own := [("part", 7)]) (N := ["told", "heard_rows", "spots", "phrases", "taken", "spot", "later", "part", "other"]) (sc := defScope s_law_parting) (by decide +kernel)) (fun _ _ _ _ _ => pg_name (i := 7) sc_law_parting.nd rfl (Or.inl rfl)) (fun _ _ _ _ _ A => (d_slice (dv 7) o_none (o_some d_int))))) a_nil)))) (ys_cons (y_setC (i := 3) sc_law_parting.nd (c_dictT P w rfl rfl T.n_dict rfl hr.units (ya_cons (c_lift fun τ => (d_lc (i := 7) rfl sc_law_parting.nd (i_tup (dv 0)) (blkOk_by (own := [("part", 7)]) (N := ["told", "heard_rows", "spots", "phrases", "taken", "spot", "later", "part", "other"]) (sc := defScope s_law_parting) (by decide +kernel)) (fun _ _ _ _ _ => pg_name (i := 7) sc_law_parting.nd rfl (Or.inl rfl)) (fun _ _ _ _ _ A => (d_tup (a_cons (d_slice (dv 7) o_none (o_some d_int)) (a_cons (d_ix (dv 7) d_int) a_nil)))))) ya_nil))) (ys_cons (y_setC (i := 4) sc_law_parting.nd (c_dictT P w rfl rfl T.n_dict rfl hr.units (ya_cons (c_lift fun τ => (d_lc (i := 7) rfl sc_law_parting.nd (i_tup (dv 1)) (blkOk_by (own := [("part", 7)]) (N := ["told", "heard_rows", "spots", "phrases", "taken", "spot", "later", "part", "other"]) (sc := defScope s_law_parting) (by decide +kernel)) (fun _ _ _ _ _ => pg_name (i := 7) sc_law_parting.nd rfl (Or.inl rfl)) (fun _ _ _ _ _ A => (d_tup (a_cons (d_slice (dv 7) o_none (o_some d_int)) (a_cons (d_ix (dv 7) d_int) a_nil)))))) ya_nil))) (ys_cons (y_for (i := 5) sc_law_parting.nd (passes_of rfl) rfl (yi_all fun τ => (i_lst (dv 2))) (ys_cons (y_lift fun τ => (s_setLcF (j := 6) (i := 8) rfl sc_law_parting.nd (i_dct P w rfl rfl symAt symP (dv 4)) (blkOk_by (own := [("other", 8)]) (N := ["told", "heard_rows", "spots", "phrases", "taken", "spot", "later", "part", "other"]) (sc := defScope s_law_parting) (by decide +kernel)) (fun _ _ _ _ _ => pg_name (i := 8) sc_law_parting.nd rfl (Or.inl rfl)) (fun _ _ _ _ _ A => (PW.pt (t_and (t_cmp opd_eq (opr_eq hr.units0) (d_ix (dv 8) d_int) (d_ix (dv 5) d_int)) (t_and1 (t_cmp opd_cmpI op_gt (d_ix (dv 8) d_int) (d_ix (dv 5) d_int)))))) (fun _ _ _ _ _ A => (dv 8)))) (ys_one (y_if (yt_all fun τ => (PW.pt (t_or (PW.pt (t_and (t_cmp (opd_tin (P := P) (w := w) (DctAt.of symAt)) (op_tin (huY hr)) (dv 5) (dv 4)) (t_and1 (t_cmp opd_ne opr_ne (d_tget P w rfl rfl (DctAt.of symAt) (huY hr) (dv 4) (dv 5)) (d_tget1 P w rfl rfl (DctAt.of symAt) (huY hr) (dv 3) (dv 5)))))) (t_or1 (PW.pt (t_and (t_cmp (opd_tin (P := P) (w := w) (DctAt.of symAt)) (op_tnotin (huY hr)) (dv 5) (dv 4)) (t_and1 (t_cmp opd_neNilP (op_neD hr.units) (dv 6) (d_lst a_nil))))))))) (ys_one (y_retC (c_lift fun τ => (dv 5)))) ys_nil)))) (ys_one (y_retC (c_lift fun τ => d_non))))))), ?_⟩
  have hz : ∀ {n : Nat}, n ≤ 1000 → n ≤ sizeLine := fun h => by rw [sizeLine_eq]; omega
  have rw_ : Rs (ws.map (·.1)) := gd.wr
  have rh : Rs (hs.map (·.1.1)) := gd.hr
  have nd : (ws.map (·.1)).Nodup := rw_.nodup
  dsimp only [ySeq, vSortSet, vCons, vNil, cDictT, cCons, cNil]
  refine vLc_tup (ds := ws.map wD) (f := fun d => Dl.pairD (placeD d)) (by rfl) (by rw [List.length_map]; exact hz gd.wl) ?_ ?_
  · intro d hd
    obtain ⟨x, hx, rfl⟩ := List.mem_map.mp hd
    refine ⟨_, rfl, 2, rfl, ?_⟩
    dsimp only
    rw [slice_w]
    rfl
  refine vLc_tup (ds := hs.map hD) (f := fun d => Dl.pairD (placeD d)) (by rfl) (by rw [List.length_map]; exact hz gd.hl) ?_ ?_
  · intro d hd
    obtain ⟨y, hy, rfl⟩ := List.mem_map.mp hd
    refine ⟨_, rfl, 2, rfl, ?_⟩
    dsimp only
    rw [slice_h]
    rfl
  refine ⟨_, _, .inr rfl, .inr rfl, by rw [List.length_map, List.length_map, List.length_map, List.length_map, sizeLine_eq]; have := gd.wl; have := gd.hl; omega, ?_⟩
  refine ⟨_, ws.map (·.1) ++ hs.map (·.1.1), U, rfl, .inr (by rw [List.map_append, List.map_map, List.map_map, List.map_map, List.map_map]; rfl), fun p hp => ?_, hU, fun p hp => ?_, fun qs pw mem => ?_⟩
  · rcases List.mem_append.mp hp with m | m
    · obtain ⟨x, hx, rfl⟩ := List.mem_map.mp m
      obtain ⟨b1, b2, b3, b4, _⟩ := gd.wok x hx
      exact ⟨⟨b1, by omega⟩, by omega, by omega⟩
    · obtain ⟨y, hy, rfl⟩ := List.mem_map.mp m
      obtain ⟨b1, b2, b3, b4, _⟩ := gd.hok y hy
      exact ⟨⟨b1, by omega⟩, by omega, by omega⟩
  · rcases List.mem_append.mp hp with m | m
    · obtain ⟨x, hx, rfl⟩ := List.mem_map.mp m
      exact hUw x hx
    · obtain ⟨y, hy, rfl⟩ := List.mem_map.mp m
      exact hUh y hy
  refine vLc_tup (ds := ws.map wD) (f := fun d => entD (placeD d, txtD d)) (by rfl) (by rw [List.length_map]; exact hz gd.wl) ?_ ?_
  · intro d hd
    obtain ⟨x, hx, rfl⟩ := List.mem_map.mp hd
    refine ⟨_, rfl, 2, rfl, ?_⟩
    dsimp only
    rw [slice_w]
    exact ⟨_, rfl, 2, rfl, .inl ⟨_, .str x.2, rfl, atI_nat (j := 2) rfl, by rw [sizeLine_eq]; simp, rfl⟩⟩
  refine ⟨_, kvW ws, rfl, .inr (congrArg D.seq (by rw [List.map_map, kvW, List.map_map]; rfl)), fun x hx => ?_, fun a3 n3 => ?_⟩
  · obtain ⟨z, _, rfl⟩ := List.mem_map.mp hx
    rfl
  rw [dictP_nodup (ps := kvW ws) (by rw [kvW, List.map_map]; exact nd)]
  refine vLc_tup (ds := hs.map hD) (f := fun d => entD (placeD d, txtD d)) (by rfl) (by rw [List.length_map]; exact hz gd.hl) ?_ ?_
  · intro d hd
    obtain ⟨y, hy, rfl⟩ := List.mem_map.mp hd
    refine ⟨_, rfl, 2, rfl, ?_⟩
    dsimp only
    rw [slice_h]
    exact ⟨_, rfl, 2, rfl, .inl ⟨_, .str y.1.2, rfl, atI_nat (j := 2) rfl, by rw [sizeLine_eq]; simp, rfl⟩⟩
  refine ⟨_, kvW (hs.map (·.1)), rfl, .inr (congrArg D.seq (by rw [List.map_map, kvW, List.map_map, List.map_map]; rfl)), fun x hx => ?_, fun a4 n4 => ?_⟩
  · obtain ⟨z, _, rfl⟩ := List.mem_map.mp hx
    rfl
  have ndh : ((hs.map (·.1)).map (·.1)).Nodup := by rw [List.map_map]; exact rh.nodup
  rw [dictP_nodup (ps := kvW (hs.map (·.1))) (by rw [kvW, List.map_map]; exact ndh)]
  have n34 : a3 ≠ a4 := fun e => by rw [← e, sget_self] at n4; cases n4
  have s3 : sget ((a4, SO.dct P w (kvW (hs.map (·.1)))) :: (a3, SO.dct P w (kvW ws)) :: τ) a3 = some (.dct P w (kvW ws)) := by rw [sget_ne n34, sget_self]
  have s4 : sget ((a4, SO.dct P w (kvW (hs.map (·.1)))) :: (a3, SO.dct P w (kvW ws)) :: τ) a4 = some (.dct P w (kvW (hs.map (·.1)))) := sget_self
  generalize (a4, SO.dct P w (kvW (hs.map (·.1)))) :: (a3, SO.dct P w (kvW ws)) :: τ = τ1 at s3 s4 ⊢
  have lookT : ∀ y ∈ hs, (kvW (hs.map (·.1))).lookup y.1.1 = some (.str y.1.2) := fun y hy => look_kv ndh (List.mem_map.mpr ⟨y, hy, rfl⟩)
  have lookN : ∀ p, p ∉ hs.map (·.1.1) → (kvW (hs.map (·.1))).lookup p = none := fun p no => look_no fun x hx e => by
    obtain ⟨y, hy, rfl⟩ := List.mem_map.mp hx
    exact no (List.mem_map.mpr ⟨y, hy, e⟩)
  have memQ : ∀ p, Cand ws hs p → p ∈ qs := fun p c => (mem p).mpr (cand_ps c)
  have ekT : (kvW (hs.map (·.1))).map (fun kv => Dl.pairD kv.1) = (hs.map (·.1.1)).map Dl.pairD := by
    rw [kvW, List.map_map, List.map_map, List.map_map]; rfl
  refine ⟨_, rfl, _, .inr rfl, fun j τ' ρ' => τ' = τ1 ∧ (∃ v5 v6 : Option D, ρ' = [some (.tup (ws.map wD)), some (.tup (hs.map hD)), some (.seq (qs.map Dl.pairD)), some (.ptr a3), some (.ptr a4), v5, v6, none, none]) ∧ ∀ (i : Nat) p, i < j → qs[i]? = some p → ¬ Cand ws hs p, ⟨rfl, ⟨none, none, rfl⟩, fun i p hi => absurd hi (Nat.not_lt_zero _)⟩, ?_, ?_⟩
  · rintro j d τ' ρ' hj ⟨rfl, ⟨v5, v6, rfl⟩, no⟩
    rw [List.getElem?_map] at hj
    obtain ⟨s, hs', rfl⟩ := Option.map_eq_some_iff.mp hj
    have sm : s ∈ ws.map (·.1) ++ hs.map (·.1.1) := (mem s).mp (List.mem_of_getElem? hs')
    have found : Cand ws hs s → q τ' (Dl.pairD s) := fun c => h τ' (some s) (first_at pw memQ hs' no c)
    have goon : ∀ v6' : Option D, ¬ Cand ws hs s → τ' = τ' ∧ (∃ v5 v6 : Option D, [some (D.tup (ws.map wD)), some (.tup (hs.map hD)), some (.seq (qs.map Dl.pairD)), some (.ptr a3), some (.ptr a4), some (Dl.pairD s), v6', none, none] = [some (.tup (ws.map wD)), some (.tup (hs.map hD)), some (.seq (qs.map Dl.pairD)), some (.ptr a3), some (.ptr a4), v5, v6, none, none]) ∧ ∀ (i : Nat) p, i < j + 1 → qs[i]? = some p → ¬ Cand ws hs p := fun v6' nc => ⟨rfl, ⟨_, _, rfl⟩, fun i p hi hp => by
      by_cases e : i = j
      · subst e
        rw [hs'] at hp
        cases hp
        exact nc
      · exact no i p (by omega) hp⟩
    dsimp only [ySeq, sSet, SEnds.at]
    refine vLcF_dct (laterG s) (by rfl) s4 (by rw [kvW, List.length_map, List.length_map]; exact hz gd.hl) ?_ ?_
    · intro d hd
      rw [ekT] at hd
      obtain ⟨p, hp, rfl⟩ := List.mem_map.mp hd
      show vAnd _ _ _ (fun b => if b = true then _ else (laterF s p).map Dl.pairD = none)
      refine ⟨_, rfl, 0, rfl, .inl ⟨_, .int p.1, rfl, atI_nat (j := 0) rfl, _, rfl, 0, rfl, .inl ⟨_, .int s.1, rfl, atI_nat (j := 0) rfl, _, rfl, _, rfl, ?_⟩⟩⟩
      by_cases e1 : p.1 = s.1
      · refine ifT (by simpa using e1) ?_
        refine ⟨_, rfl, 1, rfl, .inl ⟨_, .int p.2, rfl, atI_nat (j := 1) rfl, _, rfl, 1, rfl, .inl ⟨_, .int s.2, rfl, atI_nat (j := 1) rfl, _, _, rfl, rfl, trivial, _, rfl, ?_⟩⟩⟩
        by_cases e2 : s.2 < p.2
        · refine ifT (decide_eq_true e2) ⟨_, rfl, ?_⟩
          show (laterF s p).map Dl.pairD = _
          rw [laterF, if_pos ⟨e1, e2⟩]
          rfl
        · refine ifF (decide_eq_false e2) ?_
          rw [laterF, if_neg fun c => e2 c.2]
          rfl
      · refine ifF (by simpa using e1) (iteF ?_)
        rw [laterF, if_neg fun c => e1 c.1]
        rfl
    have eL : ((kvW (hs.map (·.1))).map fun kv => Dl.pairD kv.1).filterMap (laterG s) = ((hs.map (·.1.1)).filterMap (laterF s)).map Dl.pairD := by
      rw [ekT, List.filterMap_map, List.map_filterMap]
      rfl
    rw [eL]
    refine ⟨_, rfl, _, rfl, a4, _, s, rfl, s4, rfl, _, rfl, ?_⟩
    by_cases m : s ∈ hs.map (·.1.1)
    · obtain ⟨y, hy, rfl⟩ := List.mem_map.mp m
      refine ifT (by rw [lookT y hy]; rfl) ?_
      refine ⟨_, rfl, _, rfl, a4, _, y.1.1, .str y.1.2, rfl, s4, rfl, lookT y hy, _, rfl, a3, _, rfl, s3, _, rfl, y.1.1, rfl, ?_⟩
      have second : ¬ Cand ws hs y.1.1 → ∀ (Z : Bool → Prop), Z false → vAnd (vT (vOp (tinD P w τ' true) (vVar 5) (vVar 4))) (vT (vOp neNilP (vVar 6) (vLst fun _ q => q []))) [some (D.tup (ws.map wD)), some (.tup (hs.map hD)), some (.seq (qs.map Dl.pairD)), some (.ptr a3), some (.ptr a4), some (Dl.pairD y.1.1), some (.seq (((hs.map (·.1.1)).filterMap (laterF y.1.1)).map Dl.pairD)), none, none] Z := fun nc Z z => ⟨_, rfl, _, rfl, a4, _, y.1.1, rfl, s4, rfl, _, rfl, ifF (by rw [lookT y hy]; rfl) (by exact z)⟩
      by_cases hx : ∃ x ∈ ws, x.1 = y.1.1
      · obtain ⟨x, hx, e⟩ := hx
        have lk : (kvW ws).lookup y.1.1 = some (.str x.2) := by rw [← e]; exact look_kv nd hx
        rw [lk]
        refine ⟨_, rfl, _, rfl, ?_⟩
        by_cases q2 : y.1.2 = x.2
        · have nc : ¬ Cand ws hs y.1.1 := fun c => (cand_in rh hy).mp c ⟨x, hx, e, q2.symm⟩
          refine ifF (by simp [q2]) (second nc _ (iteF (goon _ nc)))
        · refine ifT (by simpa using q2) (iteT ⟨_, rfl, found ((cand_in rh hy).mpr fun ⟨x', hx', e1, e2⟩ => ?_)⟩)
          have h1 := look_kv nd hx'
          rw [e1, lk] at h1
          exact q2 (e2.symm.trans (D.str.inj (Option.some.inj h1)).symm)
      · rw [look_no (fun x m e => hx ⟨x, m, e⟩)]
        exact ⟨_, rfl, _, rfl, iteT (iteT ⟨_, rfl, found ((cand_in rh hy).mpr fun ⟨x, m, e, _⟩ => hx ⟨x, m, e⟩)⟩)⟩
    · refine ifF (by rw [lookN s m]; rfl) (iteF ?_)
      obtain ⟨x, hx, rfl⟩ : ∃ x ∈ ws, x.1 = s := by
        rcases List.mem_append.mp sm with m' | m'
        · obtain ⟨x, hx, e⟩ := List.mem_map.mp m'
          exact ⟨x, hx, e⟩
        · exact absurd m' m
      refine ⟨_, rfl, _, rfl, a4, _, x.1, rfl, s4, rfl, _, rfl, ifT (by rw [lookN x.1 m]; rfl) ?_⟩
      refine ⟨_, rfl, by rw [sizeLine_eq]; simp, _, .inr rfl, .inl rfl, _, rfl, ?_⟩
      by_cases ne : (hs.map (·.1.1)).filterMap (laterF x.1) = []
      · refine ifF (by rw [ne]; rfl) (goon _ fun c => later_iff.mpr ((cand_out hx m).mp c) ne)
      · refine ifT (by cases hc : (hs.map (·.1.1)).filterMap (laterF x.1) with | nil => exact absurd hc ne | cons a l => rfl) ⟨_, rfl, found ((cand_out hx m).mpr (later_iff.mp ne))⟩
  · rintro τ' ρ' ⟨rfl, _, no⟩
    refine h τ' none fun p c => ?_
    obtain ⟨i, hi⟩ := List.getElem?_of_mem (memQ p c)
    exact no i p (by rw [List.length_map]; exact (List.getElem?_eq_some_iff.mp hi).1) hi c
end
end K36

set_option Elab.async false
set_option linter.all false
set_option maxRecDepth 100000
set_option maxHeartbeats 4000000
namespace K36
open PySem PySem.Spec PyProof.Rows L2 Dl
def Fparted : DCall := fun ds q => ∃ (ws : List Wd) (hs : List Hd), ds = [.tup (ws.map wD), .tup (hs.map hD)] ∧ GoodR ws hs ∧ ∀ o, FirstP ws hs o → q (optD o)
def Fparting : DCall := fun ds q => ∃ (ws : List Wd) (hs : List Hd), ds = [.tup (ws.map wD), .tup (hs.map hD)] ∧ GoodR ws hs ∧ Few ws hs ∧ ∀ o, FirstP ws hs o → q (optD o)
section
variable {P : Program} {w : World} {K : PySem.W.Frag} {mg : Str → Option Value} {base : Heap}
theorem okP_parted {R : Res} {f : Addr} {fd : FuncData} (G : ∀ (R0 : Res) (h0 : ∀ H, R0.Ss H), FnX P w K mg base 5 f fd ["words", "heard"] (spY K (symF K R0 h0) FpartedY)) : FnG P w K mg base 5 f fd ["words", "heard"] (spD K R Fparted) :=
  pureYw G (fun ds q ⟨_, _, h, _⟩ => by rw [h]; rfl) fun ds q ⟨ws, hs, h1, h2, h3⟩ => ⟨ws, hs, h1, h2, fun _ => h3⟩
theorem okP_parting {R : Res} {f : Addr} {fd : FuncData} (G : ∀ (R0 : Res) (h0 : ∀ H, R0.Ss H), FnX P w K mg base 2 f fd ["told", "heard_rows"] (spY K (symF K R0 h0) FpartingY)) : FnG P w K mg base 2 f fd ["told", "heard_rows"] (spD K R Fparting) :=
  pureYw G (fun ds q ⟨_, _, h, _⟩ => by rw [h]; rfl) fun ds q ⟨ws, hs, h1, h2, h3, h4⟩ => ⟨ws, hs, h1, h2, h3, fun _ => h4⟩
theorem cut3t (a b c : D) (r : List D) : Dl.cutD (a :: b :: c :: r) none (some 3) = [a, b, c] := by
  show List.take (HT.sIx (r.length + 3) (r.length + 3) (some ((3 : Nat) : Int)) - 0) (List.drop 0 (a :: b :: c :: r)) = [a, b, c]
  rw [HT.sIx_nat]
  have : min 3 (r.length + 3) = 3 := by omega
  rw [this]
  simp
theorem opt_show (o : Option (Int × Int)) (hb : ∀ p, o = some p → 0 ≤ p.1 ∧ p.1 ≤ 999 ∧ 1 ≤ p.2 ∧ p.2 ≤ 9999) : (optD o).plain = true ∧ (optD o).dp ≤ 50 ∧ (optD o).sz ≤ 1000000 := by
  cases o with
  | none => exact ⟨by simp [optD, D.plain], by simp [optD, D.dp], by simp [optD, D.sz]⟩
  | some p =>
    obtain ⟨b1, b2, b3, b4⟩ := hb p rfl
    have e1 := (ok_int (i := p.1) (by omega) (by omega)).1
    have e2 := (ok_int (i := p.2) (by omega) (by omega)).1
    refine ⟨?_, by simp [optD, Dl.pairD, D.dp, D.dps], by simp [optD, Dl.pairD, D.sz, D.szs]⟩
    simp only [optD, Dl.pairD, D.plain, D.plains] at e1 e2 ⊢
    rw [e1, e2]
    rfl
def flip (hs : List Hd) : List Hd := hs.map fun y => (y.1, !y.2)
theorem flip_fst (hs : List Hd) : (flip hs).map (·.1) = hs.map (·.1) := by rw [flip, List.map_map]; rfl
theorem cand_flip {ws : List Wd} {hs : List Hd} {p : Int × Int} : Cand ws (flip hs) p ↔ Cand ws hs p := by
  constructor
  · rintro (⟨y, hy, e, no⟩ | ⟨x, hx, e, no, y, hy, e1, e2⟩)
    · obtain ⟨z, hz, rfl⟩ := List.mem_map.mp hy
      exact .inl ⟨z, hz, e, no⟩
    · obtain ⟨z, hz, rfl⟩ := List.mem_map.mp hy
      exact .inr ⟨x, hx, e, fun z' hz' => no (z'.1, !z'.2) (List.mem_map.mpr ⟨z', hz', rfl⟩), z, hz, e1, e2⟩
  · rintro (⟨y, hy, e, no⟩ | ⟨x, hx, e, no, y, hy, e1, e2⟩)
    · exact .inl ⟨_, List.mem_map.mpr ⟨y, hy, rfl⟩, e, no⟩
    · refine .inr ⟨x, hx, e, fun z' hz' => ?_, (y.1, !y.2), List.mem_map.mpr ⟨y, hy, rfl⟩, e1, e2⟩
      obtain ⟨z, hz, rfl⟩ := List.mem_map.mp hz'
      exact no z hz
theorem first_flip {ws : List Wd} {hs : List Hd} : ∀ {o : Option (Int × Int)}, FirstP ws (flip hs) o → FirstP ws hs o
  | none, h => fun p c => h p (cand_flip.mpr c)
  | some _, h => ⟨cand_flip.mp h.1, fun p' c => h.2 p' (cand_flip.mpr c)⟩
theorem good_flip {ws : List Wd} {hs : List Hd} (g : GoodR ws hs) : GoodR ws (flip hs) := by
  refine ⟨g.wok, fun y hy => ?_, g.wr, ?_, g.wl, by rw [flip, List.length_map]; exact g.hl⟩
  · obtain ⟨z, hz, rfl⟩ := List.mem_map.mp hy
    exact g.hok z hz
  · have := g.hr
    rw [flip, List.map_map]
    exact this
theorem first_bd {ws : List Wd} {hs : List Hd} (g : GoodR ws hs) {o : Option (Int × Int)} (h : FirstP ws hs o) : ∀ p, o = some p → 0 ≤ p.1 ∧ p.1 ≤ 999 ∧ 1 ≤ p.2 ∧ p.2 ≤ 9999 := fun p e => by
  subst e
  rcases h.1 with ⟨y, hy, rfl, _⟩ | ⟨x, hx, rfl, _⟩
  · obtain ⟨b1, b2, b3, b4, _⟩ := g.hok y hy
    exact ⟨b1, b2, b3, b4⟩
  · obtain ⟨b1, b2, b3, b4, _⟩ := g.wok x hx
    exact ⟨b1, b2, b3, b4⟩
def FoneR : DCall := fun ds q => ∃ (ws : List Wd) (hs : List Hd), ds = [.tup (ws.map wD), .tup (hs.map hD)] ∧ GoodR ws hs ∧ Few ws hs ∧ q (.bl true)
def FoneRY : DCallY Sy := fun ds τ q _ => ∃ (ws : List Wd) (hs : List Hd), ds = [.tup (ws.map wD), .tup (hs.map hD)] ∧ GoodR ws hs ∧ Few ws hs ∧ ∀ τ', q τ' (.bl true)
theorem okP_one_right {R : Res} {f : Addr} {fd : FuncData} (G : ∀ (R0 : Res) (h0 : ∀ H, R0.Ss H), FnX P w K mg base 6 f fd ["told", "heard_rows"] (spY K (symF K R0 h0) FoneRY)) : FnG P w K mg base 6 f fd ["told", "heard_rows"] (spD K R FoneR) :=
  pureYw G (fun ds q ⟨_, _, h, _⟩ => by rw [h]; rfl) fun ds q ⟨ws, hs, h1, h2, h3, h4⟩ => ⟨ws, hs, h1, h2, h3, fun _ => h4⟩
end
section
variable {P : Program} {w : World} {K : PySem.W.Frag} {mg : Str → Option Value} {base : Heap} {R0 : Res} {h0 : ∀ H, R0.Ss H}
theorem sc_law_one_right : FnScope ["told", "heard_rows", "due_here", "other", "part"] ["told", "heard_rows"] (defScope s_law_one_right) := ⟨rfl, rfl, rfl, by decide +kernel, rfl, by decide +kernel, by decide +kernel⟩
theorem ok_law_one_right {f : Addr} {fd : FuncData} (F : Fun K "_law_one_right" "_law_one_right" s_law_one_right f fd) (T : Txt K mg) (D_law_parting : DefP P w K mg base "_law_parting" 2 Fparting) (D_parted : ∀ R : Res, DefK2 P w K mg base "parted" "words" "heard" 5 (spD K R Fparted)) : FnX P w K mg base 6 f fd ["told", "heard_rows"] (spY K (symF K R0 h0) FoneRY) := by
  refine FunY.ok F sc_law_one_right (fun ds τ q x ⟨_, _, h, _⟩ => by rw [h]; rfl) (fun cdv A outer s H E ds τ q x hr hgd h => ?_)
  obtain ⟨ws, hs, rfl, gd, few, h⟩ := h
  have tk := takes_fn (N := ["told", "heard_rows", "due_here", "other", "part"]) (qual := "_law_one_right") (scope := defScope s_law_one_right) (f := f) (cdv := cdv) (A := A) (outer := outer) (s := s) (H := H) (E := E) (P := P) (w := w) (K := K) (mg := mg) (base := base)
  refine ⟨_, (ys_cons (y_setC (i := 2) sc_law_one_right.nd (c_lift fun τ => (d_callB cd_repr (call_repr hgd hr.units) T.n_repr (by decide +kernel) (a_cons (d_call (D_law_parting _) (hr.mono (by omega)) hgd (a_cons (dv 0) (a_cons (dv 1) a_nil))) a_nil)))) (ys_cons (y_setC (i := 3) sc_law_one_right.nd (c_lift fun τ => (d_callTy cd_tuple call_tuple_of T.n_tuple (by decide +kernel) (a_cons (d_lc (i := 4) rfl sc_law_one_right.nd (i_tup (dv 1)) (blkOk_by (own := [("part", 4)]) (N := ["told", "heard_rows", "due_here", "other", "part"]) (sc := defScope s_law_one_right) (by decide +kernel)) (fun _ _ _ _ _ => pg_name (i := 4) sc_law_one_right.nd rfl (Or.inl rfl)) (fun _ _ _ _ _ A => (d_op opd_add opr_add (d_slice (dv 4) o_none (o_some d_int)) (d_tup (a_cons (d_not (d_ix (dv 4) d_int)) a_nil))))) a_nil)))) (ys_cons (y_if (yt_all fun τ => (PW.pt (t_or (t_cmp opd_ne opr_ne (d_callB cd_repr (call_repr hgd hr.units) T.n_repr (by decide +kernel) (a_cons (d_call (D_parted _).d (hr.mono (by omega)) hgd (a_cons (dv 0) (a_cons (dv 1) a_nil))) a_nil)) (dv 2)) (t_or1 (t_cmp opd_ne opr_ne (d_callB cd_repr (call_repr hgd hr.units) T.n_repr (by decide +kernel) (a_cons (d_callK2 (D_parted _) (hr.mono (by omega)) hgd (ek_cons (dv 1) (ek_cons (dv 0) ek_nil))) a_nil)) (dv 2)))))) (ys_one (y_retC (c_lift fun τ => d_bl))) ys_nil) (ys_one (y_retC (c_lift fun τ => (d_cmp opd_eq (opr_eq hr.units0) (d_callB cd_repr (call_repr hgd hr.units) T.n_repr (by decide +kernel) (a_cons (d_call (D_parted _).d (hr.mono (by omega)) hgd (a_cons (dv 0) (a_cons (dv 3) a_nil))) a_nil)) (dv 2)))))))), ?_⟩
  refine ⟨_, rfl, _, rfl, ws, hs, rfl, gd, few, fun o fo => ?_⟩
  obtain ⟨p1, p2, p3⟩ := opt_show o (first_bd gd fo)
  refine ⟨_, rfl, p1, p2, p3, ?_⟩
  dsimp only [ySeq, vCall, vCons, vNil]
  refine vLc_tup (ds := hs.map hD) (f := fun d => hD ((hdOf d).1, !(hdOf d).2)) (by rfl) (by rw [List.length_map, sizeLine_eq]; have := gd.hl; omega) ?_ ?_
  · intro d hd
    obtain ⟨y, hy, rfl⟩ := List.mem_map.mp hd
    refine ⟨_, rfl, 3, rfl, ?_⟩
    dsimp only [hD, sliceD]
    rw [cut3t]
    exact ⟨_, rfl, 3, rfl, .inl ⟨_, .bl y.2, rfl, atI_nat (j := 3) rfl, y.2, rfl, by rw [sizeLine_eq]; simp, by rw [sizeLine_eq]; simp, rfl⟩⟩
  have ef : (hs.map hD).map (fun d => hD ((hdOf d).1, !(hdOf d).2)) = (flip hs).map hD := by
    rw [flip, List.map_map, List.map_map]; rfl
  rw [ef]
  refine ⟨_, _, rfl, .inr rfl, ?_⟩
  refine ⟨_, rfl, _, rfl, ws, hs, rfl, gd, fun o1 f1 => ?_⟩
  obtain rfl := first_uniq f1 fo
  refine ⟨_, rfl, p1, p2, p3, _, rfl, _, rfl, _, rfl, ifF (by simp) ?_⟩
  refine ⟨_, rfl, _, rfl, _, _, rfl, ws, hs, rfl, gd, fun o2 f2 => ?_⟩
  obtain rfl := first_uniq f2 fo
  refine ⟨_, rfl, p1, p2, p3, _, rfl, _, rfl, _, rfl, ifF (by simp) ?_⟩
  refine ⟨_, rfl, _, rfl, ws, flip hs, rfl, good_flip gd, fun o3 f3 => ?_⟩
  obtain rfl := first_uniq (first_flip f3) fo
  refine ⟨_, rfl, p1, p2, p3, _, rfl, _, rfl, ?_⟩
  rw [beq_self_eq_true]
  exact h _
/-- a pair of books that are compared -/
def PairOk (d : D) : Prop := ∃ (ws : List Wd) (hs : List Hd), d = .tup [.tup (ws.map wD), .tup (hs.map hD)] ∧ GoodR ws hs ∧ Few ws hs
theorem pair_nil : PairOk (.tup [.tup [], .tup []]) := ⟨[], [], rfl, ⟨fun x m => (by cases m), fun x m => (by cases m), .nil, .nil, by simp, by simp⟩, [], by simp, fun x m => (by cases m), fun x m => (by cases m)⟩
theorem pair_left {ws : List Wd} {hs : List Hd} (g : GoodR ws hs) (f : Few ws hs) : PairOk (.tup [.tup (ws.map wD), .tup []]) := by
  obtain ⟨U, h1, h2, _⟩ := f
  exact ⟨ws, [], rfl, ⟨g.wok, fun x m => (by cases m), g.wr, .nil, g.wl, by simp⟩, U, h1, h2, fun x m => (by cases m)⟩
theorem pair_right {ws : List Wd} {hs : List Hd} (g : GoodR ws hs) (f : Few ws hs) : PairOk (.tup [.tup [], .tup (hs.map hD)]) := by
  obtain ⟨U, h1, _, h3⟩ := f
  exact ⟨[], hs, rfl, ⟨fun x m => (by cases m), g.hok, .nil, g.hr, by simp, g.hl⟩, U, h1, fun x m => (by cases m), h3⟩
def FrightY (a : Addr) : DCallY Sy := fun ds τ q x => ds = [.ptr a] ∧ ∀ τ', q τ' (.bl true)
theorem sc_law_right : FnScope ["pot", "some", "turn", "told", "heard_rows"] ["pot"] (defScope s_law_right) := ⟨rfl, rfl, rfl, by decide +kernel, rfl, by decide +kernel, by decide +kernel⟩
theorem ok_law_right {a : Addr} (hp : PotAt a R0) {f : Addr} {fd : FuncData} (F : Fun K "_law_right" "_law_right" s_law_right f fd) (T : Txt K mg) (D_law_one_right : DefP P w K mg base "_law_one_right" 6 FoneR)
    (Y_law_told_rows : DefX P w K mg base "_law_told_rows" ["pot"] 3 (spY K (symF K R0 h0) (FtoldR a))) (Y_law_heard_rows : DefX P w K mg base "_law_heard_rows" ["pot", "told"] 3 (spY K (symF K R0 h0) (FheardR a))) :
    FnX P w K mg base 7 f fd ["pot"] (spY K (symF K R0 h0) (FrightY a)) := by
  refine FunY.ok F sc_law_right (fun ds τ q x ⟨h, _⟩ => by rw [h]; rfl) (fun cdv A outer s H E ds τ q x hr hgd h => ?_)
  obtain ⟨rfl, h⟩ := h
  have tk := takes_fn (N := ["pot", "some", "turn", "told", "heard_rows"]) (qual := "_law_right") (scope := defScope s_law_right) (f := f) (cdv := cdv) (A := A) (outer := outer) (s := s) (H := H) (E := E) (P := P) (w := w) (K := K) (mg := mg) (base := base)
  refine ⟨_, (ys_cons (y_setC (i := 1) sc_law_right.nd (c_lst ya_nil)) (ys_cons (y_for (i := 2) sc_law_right.nd (passes_of rfl) rfl (yi_all fun τ => (i_range T.n_range (a_cons d_int a_nil))) (ys_cons (y_setC (i := 3) sc_law_right.nd (c_callA Y_law_told_rows tk (hr.mono (by omega)) hgd (ya_cons (c_lift fun τ => (dv 0)) ya_nil))) (ys_one (y_exprC (c_append (fun τ => (dv 1)) (c_tup (ya_cons (c_lift fun τ => (dv 3)) (ya_cons (c_callA Y_law_heard_rows tk (hr.mono (by omega)) hgd (ya_cons (c_lift fun τ => (dv 0)) (ya_cons (c_lift fun τ => (dv 3)) ya_nil))) ya_nil)))))))) (ys_cons (y_setC (i := 1) sc_law_right.nd (c_lift fun τ => (d_op (opd_addPL symAt) op_cat (dv 1) (d_lst (a_cons (d_tup (a_cons (d_tup a_nil) (a_cons (d_tup a_nil) a_nil))) (a_cons (d_tup (a_cons (d_ix (d_ixY symAt (dv 1) d_int) d_int) (a_cons (d_tup a_nil) a_nil))) (a_cons (d_tup (a_cons (d_tup a_nil) (a_cons (d_ix (d_ixY symAt (dv 1) d_int) d_int) a_nil))) (a_cons (d_ixY symAt (dv 1) d_int) a_nil)))))))) (ys_one (y_retC (c_lift fun τ => (d_callB cd_all (cr_all rfl) T.n_all (by decide +kernel) (a_cons (d_lcU (i := 3) (k := 4) rfl sc_law_right.nd (i_toP (i_lst (dv 1))) (blkOk_by (own := [("told", 3), ("heard_rows", 4)]) (N := ["pot", "some", "turn", "told", "heard_rows"]) (sc := defScope s_law_right) (by decide +kernel)) (by decide) (fun _ _ _ _ _ => pg_tup rfl (pgs_cons (pg_name (i := 3) sc_law_right.nd rfl (Or.inl rfl)) (pgs_cons (pg_name (i := 4) sc_law_right.nd rfl (Or.inl rfl)) pgs_nil))) (fun _ _ _ _ _ A => (d_call (D_law_one_right _) (hr.mono (by omega)) hgd (a_cons (dv 3) (a_cons (dv 4) a_nil))))) a_nil)))))))), ?_⟩
  refine ⟨by rw [sizeLine_eq]; simp, fun l nl => ?_⟩
  have hlen : ((List.range (4 : Int).toNat).map fun (j : Nat) => D.int j).length = 4 := by decide +kernel
  refine ⟨4, rfl, by omega, by omega, ?_⟩
  generalize ((List.range (4 : Int).toNat).map fun (j : Nat) => D.int j) = Ls at hlen ⊢
  refine ⟨fun j τ' ρ' => ∃ (ds : List D) (v2 v3 : Option D), ρ' = [some (.ptr a), some (.ptr l), v2, v3, none] ∧ sget τ' l = some (.lst ds) ∧ ds.length = j ∧ ∀ d ∈ ds, PairOk d, ⟨[], none, none, rfl, sget_self, rfl, fun d m => (by cases m)⟩, ?_, ?_⟩
  · rintro j d τ1 ρ1 hj ⟨ds, v2, v3, rfl, gl, el, ok⟩
    have hj4 : j < 4 := by have := (List.getElem?_eq_some_iff.mp hj).1; omega
    refine ⟨_, rfl, rfl, fun τ2 ws kp sd => ?_⟩
    have gl2 := kp _ _ gl
    refine ⟨_, rfl, l, ds, rfl, gl2, _, rfl, _, rfl, _, rfl, ws, rfl, sd, fun τ3 hs kp3 hok hrs hU hlen3 => ⟨by rw [sizeLine_eq]; simp, ds, kp3 _ _ gl2, by rw [sizeLine_eq]; omega, ?_⟩⟩
    obtain ⟨U, hU2, hin⟩ := hU
    have sl := sd.len
    refine ⟨ds ++ [.tup [.tup (ws.map wD), .tup (hs.map hD)]], _, _, rfl, sget_self, by rw [List.length_append]; simp; omega, fun d hd => ?_⟩
    rcases List.mem_append.mp hd with m | m
    · exact ok d m
    · rw [List.mem_singleton.mp m]
      refine ⟨ws, hs, rfl, ⟨fun x hx => (sd.ok x hx).1, hok, sd.rs, hrs, by omega, by omega⟩, ws.map (·.1) ++ U, by rw [List.length_append, List.length_map]; omega, fun x hx => List.mem_append_left _ (List.mem_map.mpr ⟨x, hx, rfl⟩), fun y hy => ?_⟩
      rcases hin y hy with m | m
      · exact List.mem_append_left _ m
      · exact List.mem_append_right _ m
  · rintro τ1 ρ1 ⟨ds, v2, v3, rfl, gl, el, ok⟩
    rw [hlen] at el
    match ds, el with
    | [d0, d1, d2, d3], _ =>
    obtain ⟨w0, h0', rfl, g0, f0⟩ := ok d0 (by simp)
    obtain ⟨w1, h1', rfl, g1, f1⟩ := ok d1 (by simp)
    have q0 : ∀ {q : D → Prop}, q (.tup [.tup (w0.map wD), .tup (h0'.map hD)]) → ixY τ1 (.ptr l) (.int 0) q := fun h => ⟨_, rfl, _, _, .inr ⟨l, rfl, gl⟩, atI_nat (j := 0) rfl, h⟩
    have q1 : ∀ {q : D → Prop}, q (.tup [.tup (w1.map wD), .tup (h1'.map hD)]) → ixY τ1 (.ptr l) (.int 1) q := fun h => ⟨_, rfl, _, _, .inr ⟨l, rfl, gl⟩, atI_nat (j := 1) rfl, h⟩
    have z : ∀ {ds : List D}, ds.length ≤ 8 → ds.length ≤ sizeLine := fun h => by rw [sizeLine_eq]; omega
    refine ⟨_, rfl, z (by simp), z (by simp), z (by simp), ?_⟩
    refine ⟨_, rfl, q0 ⟨0, rfl, .inl ⟨_, _, rfl, atI_nat (j := 0) rfl, z (by simp), z (by simp), ?_⟩⟩⟩
    refine ⟨z (by simp), _, rfl, q1 ⟨1, rfl, .inl ⟨_, _, rfl, atI_nat (j := 1) rfl, z (by simp), ?_⟩⟩⟩
    refine ⟨_, rfl, q0 ⟨z (by simp), l, _, _, rfl, gl, .inl rfl, by rw [sizeLine_eq]; simp, ?_⟩⟩
    generalize hLL : ([D.tup [.tup (w0.map wD), .tup (h0'.map hD)], D.tup [.tup (w1.map wD), .tup (h1'.map hD)], d2, d3] ++ [D.tup [.tup [], .tup []], D.tup [.tup (w0.map wD), .tup []], D.tup [.tup [], .tup (h1'.map hD)], D.tup [.tup (w0.map wD), .tup (h0'.map hD)]] : List D) = LL
    have lLL : LL.length ≤ 8 := by rw [← hLL]; simp
    have hall : ∀ d ∈ LL, PairOk d := by
      intro d hd
      rw [← hLL] at hd
      rcases List.mem_append.mp hd with m | m
      · exact ok d m
      · simp only [List.mem_cons, List.not_mem_nil, or_false] at m
        rcases m with rfl | rfl | rfl | rfl
        · exact pair_nil
        · exact pair_left g0 f0
        · exact pair_right g1 f1
        · exact ⟨w0, h0', rfl, g0, f0⟩
    refine ⟨_, rfl, LL, .inr rfl, z lLL, fun _ d => d = .bl true, fun j d hj => ?_, fun es hl hP => ?_⟩
    · obtain ⟨ws, hs, rfl, g, f⟩ := hall d (List.mem_of_getElem? hj)
      exact ⟨_, _, rfl, _, rfl, _, rfl, ws, hs, rfl, g, f, rfl⟩
    · refine ⟨_, es.map fun _ => true, rfl, .inr (congrArg D.seq ?_), ?_⟩
      · rw [List.map_map]
        apply List.ext_getElem?
        intro j
        rw [List.getElem?_map]
        cases he : es[j]? with
        | none => rfl
        | some e => rw [hP j e he]; rfl
      · have e : ((es.map fun _ => true).all id) = true := List.all_eq_true.mpr fun x hx => by
          obtain ⟨_, _, rfl⟩ := List.mem_map.mp hx
          rfl
        rw [e]
        exact h _
end
end K36


set_option Elab.async false
set_option linter.all false
set_option maxRecDepth 100000
set_option maxHeartbeats 4000000
namespace K36
open PySem PySem.Spec PyProof.Rows L2 Dl
section
variable {P : Program} {w : World} {K : PySem.W.Frag} {mg : Str → Option Value} {base : Heap}
/-! ### the script's cells -/
def Fcell (a : Addr) : DCall := fun ds q => ∃ k : Int, ds = [.ptr a, .int k] ∧ 0 ≤ k ∧ k ≤ 100 ∧ ∀ z : Int, q (.int z)
theorem sc_law_cell : FnScope ["script", "k", "mixed", "cell"] ["script", "k"] (defScope s_law_cell) := ⟨rfl, rfl, rfl, by decide +kernel, rfl, by decide +kernel, by decide +kernel⟩
theorem ok_law_cell {R : Res} {a : Addr} {ns : List Int} (hS : ScrAt K a ns R) (hns : ns.length ≤ 16777216) {f : Addr} {fd : FuncData} (F : Fun K "_law_cell" "_law_cell" s_law_cell f fd) (T : Txt K mg) : FnG P w K mg base 1 f fd ["script", "k"] (spD K R (Fcell a)) := by
  refine FunD.ok F sc_law_cell (fun ds q ⟨_, e, _⟩ => by rw [e]; rfl) (fun cdv A outer s H E ds q hr hgd h => ?_)
  obtain ⟨k, rfl, k0, k1, h⟩ := h
  refine ⟨_, (ss_cons (s_if (t_cmp opd_cmpI op_lt (dv 1) (d_callB (cd_lenS hS) call_len T.n_len (by decide +kernel) (a_cons (dv 0) a_nil))) (ss_one (s_ret (d_ixS hS (dv 0) (dv 1)))) ss_nil) (ss_cons (s_set (i := 2) sc_law_cell.nd (d_op opd_int op_mod (d_op opd_int op_mul d_int (d_op opd_add opr_add (d_op opd_add opr_add (d_op opd_int op_mul (dv 1) (dv 1)) (d_op opd_int op_mul d_int (dv 1))) d_int)) d_int)) (ss_cons (s_for (i := 3) sc_law_cell.nd PassesOwn.never rfl (i_lst (d_sliceS hS hns (dv 0) o_none (o_some d_int))) (ss_one (s_set (i := 2) sc_law_cell.nd (d_op opd_int op_mod (d_op opd_add opr_add (d_op opd_int op_mul (dv 2) d_int) (dv 3)) d_int)))) (ss_one (s_ret (dv 2)))))), ?_⟩
  refine ⟨.int k, rfl, .ptr a, rfl, rfl, _, _, rfl, rfl, trivial, _, rfl, ?_⟩
  refine ifB (fun hk => ?_) (fun _ => ?_)
  · exact ⟨.ptr a, rfl, .int k, rfl, rfl, k, rfl, k0, of_decide_eq_true hk, h⟩
  · refine ⟨_, rfl, _, rfl, _, _, rfl, rfl, .inl ⟨by omega, by omega⟩, _, rfl, _, _, rfl, rfl, .inl ⟨by decide, by decide⟩, _, _, rfl, rfl, .inl ⟨by decide, by decide⟩, _, _, rfl, rfl, (show (0 : Int) < 1000000409 by decide), ?_⟩
    refine ⟨.ptr a, rfl, _, rfl, rfl, fun zs hz => ⟨_, .inr rfl, ?_⟩⟩
    refine ⟨fun _ ρ => ∃ (m : Int) (c : Option D), ρ = [some (.ptr a), some (.int k), some (.int m), c], ⟨_, _, rfl⟩, ?_, ?_⟩
    · rintro j d ρ hj ⟨m, c, rfl⟩
      rw [List.getElem?_map] at hj
      obtain ⟨z, -, rfl⟩ : ∃ z, zs[j]? = some z ∧ D.int z = d := by
        cases hz : zs[j]? with
        | none => rw [hz] at hj; cases hj
        | some z => rw [hz] at hj; exact ⟨z, rfl, by cases hj; rfl⟩
      exact ⟨_, rfl, _, _, rfl, rfl, .inr ⟨by decide, by decide⟩, _, rfl, _, _, rfl, rfl, (show (0 : Int) < 1000000409 by decide), _, _, rfl⟩
    · rintro ρ ⟨m, c, rfl⟩
      exact ⟨_, rfl, h m⟩
/-! ### a pot, made -/
theorem sc_law_pot : FnScope ["cell"] ["cell"] (defScope s_law_pot) := ⟨rfl, rfl, rfl, by decide +kernel, rfl, by decide +kernel, by decide +kernel⟩
theorem ok_law_pot {f : Addr} {fd : FuncData} (F : Fun K "_law_pot" "_law_pot" s_law_pot f fd) (T : Txt K mg) : FnG P w K mg base 1 f fd ["cell"] spPot := by
  refine FunG.ok F sc_law_pot (fun vs H Q E ⟨c, e, _⟩ => by rw [e]; rfl) (fun cdv A outer s H vs Q E hr hgd h => ?_)
  obtain ⟨c, rfl, h⟩ := h
  refine ⟨_, (pss_cons (ps_if (PW.pt (pw_or (pt_cmpR op_lt (pv 0) pe_int (nomark _)) (pw_or1 (pt_cmpR op_ge (pv 0) (pe_op op_pow pe_int pe_int) (nomark _)))))
    (pss_one (ps_ret (pe_lst (pa_cons (pe_callB call_abs (by rfl) T.n_abs (by decide +kernel) (pa_cons (pv 0) pa_nil)) (pa_cons (pe_op op_add (pe_op op_mul (pe_op op_mod (pv 0) pe_int) pe_int) pe_int) (pa_cons pe_int pa_nil)))))) pss_nil)
    (pss_one (ps_ret (pe_lst (pa_cons pe_int (pa_cons (pe_op op_add (pe_op op_mul (pe_op op_mod (pv 0) pe_int) pe_int) pe_int) (pa_cons pe_int pa_nil))))))), ?_⟩
  have z3 : (3 : Nat) ≤ sizeLine := by rw [sizeLine_eq]; exact (by decide : (3 : Nat) ≤ 16777216)
  have hm : ∀ c : Int, CMul (c % 1000000409) 6007 := fun c => .inr ⟨by decide, by decide⟩
  have p9 : (0 : Int) < 1000000409 := by decide
  refine ⟨.int c, rfl, _, _, rfl, rfl, _, rfl, ?_⟩
  refine ifB (fun _ => ?_) (fun _ => ⟨.int c, rfl, _, _, rfl, rfl, ⟨by decide, by decide, by decide⟩, _, _, rfl, rfl, _, rfl, ?_⟩)
  · exact ⟨.int c, rfl, c, rfl, .int c, rfl, _, _, rfl, rfl, p9, _, _, rfl, rfl, hm c, _, _, rfl, rfl, z3, fun a n => h a _ _ _ n⟩
  · refine ifB (fun _ => ?_) (fun _ => ?_)
    · exact ⟨.int c, rfl, c, rfl, .int c, rfl, _, _, rfl, rfl, p9, _, _, rfl, rfl, hm c, _, _, rfl, rfl, z3, fun a n => h a _ _ _ n⟩
    · exact ⟨.int c, rfl, _, _, rfl, rfl, p9, _, _, rfl, rfl, hm c, _, _, rfl, rfl, z3, fun a n => h a _ _ _ n⟩
def Fright (a : Addr) : DCall := fun ds q => ds = [.ptr a] ∧ q (.bl true)
theorem right_any {f : Addr} {fd : FuncData} (h : ∀ a : Addr, FnX P w K mg base 7 f fd ["pot"] (spY K (symF K (Res.pot a) (fun _ => trivial)) (FrightY a))) : FnG P w K mg base 8 f fd ["pot"] (spAnyPot K Fright) :=
  (fn_anyPot fun a => (h a).toG fun vs H Q E hsp => by
    obtain ⟨ds, q, r, o, ⟨e, hq⟩, f⟩ := hsp
    refine ⟨ds, [], fun _ d => d = .bl true, fun _ _ => False, r, ⟨o.1, fun b so g => by cases g⟩, ⟨e, fun _ => rfl⟩, ?_, fun _ _ _ z => z.elim⟩
    rintro τ' d v H' rfl rv st s'
    cases rv
    exact f _ _ _ hq (.bl _) (fun b u nb hb => st.keep b u (fun m => nb (by simpa [symF, Res.pot] using m)) hb) ⟨s'.1, trivial⟩).mono (by decide)
theorem sc_law : FnScope ["script", "k"] ["script"] (defScope s_law) := ⟨rfl, rfl, rfl, by decide +kernel, rfl, by decide +kernel, by decide +kernel⟩
def Flaw (a : Addr) : DCall := fun ds q => ds = [.ptr a] ∧ q (.bl true)
theorem ok_law {R : Res} {a : Addr} {ns : List Int} (hS : ScrAt K a ns R) (hns : ns.length ≤ 16777216) {f : Addr} {fd : FuncData} (F : Fun K "law" "law" s_law f fd) (T : Txt K mg) (D_law_cell : ∀ {R : Res}, ScrAt K a ns R → Def P w K mg base "_law_cell" 1 (spD K R (Fcell a))) (D_law_pot : Def P w K mg base "_law_pot" 1 spPot)
    (D_law_right : Def P w K mg base "_law_right" 8 (spAnyPot K Fright)) : FnG P w K mg base 9 f fd ["script"] (spD K R (Flaw a)) := by
  refine FunD.ok F sc_law (fun ds q ⟨e, _⟩ => by rw [e]; rfl) (fun cdv A outer s H E ds q hr hgd h => ?_)
  obtain ⟨rfl, h⟩ := h
  refine ⟨_, (ss_one (s_ret (d_callB cd_all (cr_all rfl) T.n_all (by decide +kernel) (a_cons (d_lc (i := 1) rfl sc_law.nd (i_range T.n_range (a_cons (d_callB cd_int2 (call_max2 rfl) T.n_max (by decide +kernel) (a_cons d_int (a_cons (d_callB cd_int2 (call_min2 rfl) T.n_min (by decide +kernel) (a_cons (d_callB (cd_lenS hS) call_len T.n_len (by decide +kernel) (a_cons (dv 0) a_nil)) (a_cons d_int a_nil))) a_nil))) a_nil)) (blkOk_by (own := [("k", 1)]) (N := ["script", "k"]) (sc := defScope s_law) (by decide +kernel)) (fun _ _ _ _ _ => pg_name (i := 1) sc_law.nd rfl (Or.inl rfl)) (fun _ _ _ _ _ A => (d_onPot (ans := .bl true) (fun _ _ => .bl true) (fun _ _ _ h => by cases h; rfl) D_law_right D_law_pot (hr.mono (by omega)) (hr.mono (by omega)) hgd (d_call (D_law_cell hS.add) (hr.mono (by omega)) hgd (a_cons (dv 0) (a_cons (dv 1) a_nil)))))) a_nil)))), ?_⟩
  have hM : (fun i j : Int => if j > i then j else i) 2 ((fun i j : Int => if j < i then j else i) (ns.length : Int) 8) ≤ 100 ∧ 1 ≤ (fun i j : Int => if j > i then j else i) 2 ((fun i j : Int => if j < i then j else i) (ns.length : Int) 8) := by
    dsimp only
    split <;> split <;> omega
  refine ⟨.ptr a, rfl, rfl, _, _, rfl, _, _, rfl, _, rfl, ?_⟩
  generalize (fun i j : Int => if j > i then j else i) 2 ((fun i j : Int => if j < i then j else i) (ns.length : Int) 8) = M at hM ⊢
  obtain ⟨m1, m2⟩ := hM
  refine ⟨by omega, by omega, ?_⟩
  refine ⟨by rw [List.length_map, List.length_range, sizeLine_eq]; omega, fun _ d => d = .bl true, fun j d hj => ?_, fun es hl hP => ?_⟩
  · have hl := (List.getElem?_eq_some_iff.mp hj).1
    rw [List.length_map, List.length_range] at hl
    rw [List.getElem?_map, List.getElem?_range hl] at hj
    cases hj
    exact ⟨.ptr a, rfl, _, rfl, (j : Int), rfl, by omega, by omega, fun z => ⟨z, rfl, rfl⟩⟩
  · refine ⟨_, es.map fun _ => true, rfl, .inr (congrArg D.seq ?_), ?_⟩
    · rw [List.map_map]
      apply List.ext_getElem?
      intro j
      rw [List.getElem?_map]
      cases he : es[j]? with
      | none => rfl
      | some e => rw [hP j e he]; rfl
    · have e : ((es.map fun _ => true).all id) = true := List.all_eq_true.mpr fun x hx => by
        obtain ⟨_, _, rfl⟩ := List.mem_map.mp hx
        rfl
      rw [e]
      exact h
end
end K36

set_option Elab.async false
set_option linter.all false
set_option maxRecDepth 100000
set_option maxHeartbeats 0
namespace K36
open PySem PySem.Spec PyProof.Rows L2 Dl
def d_is_whole : He.DefD := ⟨("is_whole", none), "is_whole", "is_whole", defArgs s_is_whole, defBody s_is_whole, defScope s_is_whole, [], []⟩
def d_is_truth : He.DefD := ⟨("is_truth", none), "is_truth", "is_truth", defArgs s_is_truth, defBody s_is_truth, defScope s_is_truth, [], []⟩
def d_is_text : He.DefD := ⟨("is_text", none), "is_text", "is_text", defArgs s_is_text, defBody s_is_text, defScope s_is_text, [], []⟩
def d_is_placed : He.DefD := ⟨("_is_placed", none), "_is_placed", "_is_placed", defArgs s_is_placed, defBody s_is_placed, defScope s_is_placed, [], []⟩
def d_is_word : He.DefD := ⟨("_is_word", none), "_is_word", "_is_word", defArgs s_is_word, defBody s_is_word, defScope s_is_word, [], []⟩
def d_is_heard : He.DefD := ⟨("_is_heard", none), "_is_heard", "_is_heard", defArgs s_is_heard, defBody s_is_heard, defScope s_is_heard, [], []⟩
def d_need_rising : He.DefD := ⟨("_need_rising", none), "_need_rising", "_need_rising", defArgs s_need_rising, defBody s_need_rising, defScope s_need_rising, [], []⟩
def d_parted : He.DefD := ⟨("parted", none), "parted", "parted", defArgs s_parted, defBody s_parted, defScope s_parted, [], []⟩
def d_law_cell : He.DefD := ⟨("_law_cell", none), "_law_cell", "_law_cell", defArgs s_law_cell, defBody s_law_cell, defScope s_law_cell, [], []⟩
def d_law_pot : He.DefD := ⟨("_law_pot", none), "_law_pot", "_law_pot", defArgs s_law_pot, defBody s_law_pot, defScope s_law_pot, [], []⟩
def d_law_pull : He.DefD := ⟨("_law_pull", none), "_law_pull", "_law_pull", defArgs s_law_pull, defBody s_law_pull, defScope s_law_pull, [], []⟩
def d_law_phrase : He.DefD := ⟨("_law_phrase", none), "_law_phrase", "_law_phrase", defArgs s_law_phrase, defBody s_law_phrase, defScope s_law_phrase, [], []⟩
def d_law_told_rows : He.DefD := ⟨("_law_told_rows", none), "_law_told_rows", "_law_told_rows", defArgs s_law_told_rows, defBody s_law_told_rows, defScope s_law_told_rows, [], []⟩
def d_law_heard_rows : He.DefD := ⟨("_law_heard_rows", none), "_law_heard_rows", "_law_heard_rows", defArgs s_law_heard_rows, defBody s_law_heard_rows, defScope s_law_heard_rows, [], []⟩
def d_law_parting : He.DefD := ⟨("_law_parting", none), "_law_parting", "_law_parting", defArgs s_law_parting, defBody s_law_parting, defScope s_law_parting, [], []⟩
def d_law_one_right : He.DefD := ⟨("_law_one_right", none), "_law_one_right", "_law_one_right", defArgs s_law_one_right, defBody s_law_one_right, defScope s_law_one_right, [], []⟩
def d_law_right : He.DefD := ⟨("_law_right", none), "_law_right", "_law_right", defArgs s_law_right, defBody s_law_right, defScope s_law_right, [], []⟩
def d_law : He.DefD := ⟨("law", none), "law", "law", defArgs s_law, defBody s_law, defScope s_law, [], []⟩
def fn : List He.DefD := [d_is_whole, d_is_truth, d_is_text, d_is_placed, d_is_word, d_is_heard, d_need_rising, d_parted, d_law_cell, d_law_pot, d_law_pull, d_law_phrase, d_law_told_rows, d_law_heard_rows, d_law_parting, d_law_one_right, d_law_right, d_law]
def fa : List He.Fa := [.glo "is_whole", .glo "is_truth", .glo "is_text", .glo "_is_placed", .glo "_is_word", .glo "_is_heard", .glo "_need_rising", .glo "parted", .glo "_law_cell", .glo "_law_pot", .glo "_law_pull", .glo "_law_phrase", .glo "_law_told_rows", .glo "_law_heard_rows", .glo "_law_parting", .glo "_law_one_right", .glo "_law_right", .glo "law", .free "type", .free "int", .free "bool", .free "str", .free "tuple", .free "len", .free "all", .free "isinstance", .free "abs", .free "divmod", .free "list", .free "min", .free "max", .free "range", .free "repr", .free "enumerate", .free "sorted", .free "set", .free "dict", .int "MOST_SIGNS" 20, .int "MOST_NUMBER" 9999, .int "MOST_ROUND" 999, .str "TEXT_SIGNS" "abcdefghijklmnopqrstuvwxyz0123456789 "]

def clsB (K : PySem.W.Frag) (C : Addr) : Bool := match K.lookup C with
  | some o => decide (o.cls = .type "type")
  | none => false
theorem clsB_ok {K : PySem.W.Frag} {C : Addr} (h : clsB K C = true) : IsCls K C := by
  unfold clsB at h
  cases e : K.lookup C with
  | none => rw [e] at h; cases h
  | some o => rw [e] at h; exact ⟨o, e, of_decide_eq_true h⟩
def ex (K : PySem.W.Frag) : Bool := true
theorem fun_ofM {K : PySem.W.Frag} {x y : Str} {st : Stmt} {f : Addr} {fd : FuncData} (F : FunD K x y (defArgs st) (defBody st) (defScope st) [] [] f fd) : Fun K x y st f fd := by
  obtain ⟨oc, od, dV, kV, doc, pm, an, cdv, ct, osl, e, lk, hc, hd, _⟩ := F.ex
  rcases hd with ⟨_, hd⟩ | ⟨hd, _⟩
  · subst hd
    exact ⟨⟨oc, od, kV, doc, pm, an, cdv, ct, osl, e, lk, hc⟩, F.kp⟩
  · exact absurd rfl hd

end K36

set_option Elab.async false
set_option linter.all false
set_option maxRecDepth 100000
set_option maxHeartbeats 4000000
namespace K36
open PySem PySem.Spec PyProof.Rows L2 Dl
theorem facts {P : Program} {w : World} {K : PySem.W.Frag} {h : Heap} {mg : Str → Option Value} {f0 : Addr} (X : K.In h) (G : h.Ns mainGlobals mg) (hfa : mg "law" = some (.ref f0))
    (h1 : fa.all (fun f => f.ok K) = true) (h1b : fn.all (fun f => f.ok K) = true) (h1c : fn.map (fun d => He.fnW K d.at_) = fn.map He.DefD.val)
    (h3 : ex K = true) :
    ∃ fd : FuncData, (∀ (s : Shared) (u : Value), BindsTo s fd ⟨[u], []⟩ [("script", u)]) ∧ ∀ base : Heap, K.In base → base.Ns mainGlobals mg → FnG P w K mg base 9 f0 fd ["script"] (spTop K 63) := by
  have c : He.SaysD fa fn K := by
    show ((fa.all fun f => f.ok K) && fn.all fun d => d.ok K, fn.map fun d => He.fnW K d.at_) = (true, fn.map He.DefD.val)
    rw [h1, h1b, h1c]; rfl

  obtain ⟨fd_is_whole, F_is_whole⟩ := c.def_ 0 (d := d_is_whole) rfl
  have F_is_whole : Fun K "is_whole" "is_whole" s_is_whole (He.ga K "is_whole") fd_is_whole := fun_ofM F_is_whole
  have g_is_whole : mg "is_whole" = some (.ref (He.ga K "is_whole")) := He.glo_ok X G (c.fact 0 (f := .glo "is_whole") rfl)
  have b_is_whole : Binds K fd_is_whole ["thing", "low", "high"] [] := F_is_whole.binds fun _ _ _ _ _ _ us hl => match us, hl with | [_, _, _], _ => rfl
  obtain ⟨fd_is_truth, F_is_truth⟩ := c.def_ 1 (d := d_is_truth) rfl
  have F_is_truth : Fun K "is_truth" "is_truth" s_is_truth (He.ga K "is_truth") fd_is_truth := fun_ofM F_is_truth
  have g_is_truth : mg "is_truth" = some (.ref (He.ga K "is_truth")) := He.glo_ok X G (c.fact 1 (f := .glo "is_truth") rfl)
  have b_is_truth : Binds K fd_is_truth ["thing"] [] := F_is_truth.binds fun _ _ _ _ _ _ us hl => match us, hl with | [_], _ => rfl
  obtain ⟨fd_is_text, F_is_text⟩ := c.def_ 2 (d := d_is_text) rfl
  have F_is_text : Fun K "is_text" "is_text" s_is_text (He.ga K "is_text") fd_is_text := fun_ofM F_is_text
  have g_is_text : mg "is_text" = some (.ref (He.ga K "is_text")) := He.glo_ok X G (c.fact 2 (f := .glo "is_text") rfl)
  have b_is_text : Binds K fd_is_text ["thing"] [] := F_is_text.binds fun _ _ _ _ _ _ us hl => match us, hl with | [_], _ => rfl
  obtain ⟨fd_is_placed, F_is_placed⟩ := c.def_ 3 (d := d_is_placed) rfl
  have F_is_placed : Fun K "_is_placed" "_is_placed" s_is_placed (He.ga K "_is_placed") fd_is_placed := fun_ofM F_is_placed
  have g_is_placed : mg "_is_placed" = some (.ref (He.ga K "_is_placed")) := He.glo_ok X G (c.fact 3 (f := .glo "_is_placed") rfl)
  have b_is_placed : Binds K fd_is_placed ["row", "many"] [] := F_is_placed.binds fun _ _ _ _ _ _ us hl => match us, hl with | [_, _], _ => rfl
  obtain ⟨fd_is_word, F_is_word⟩ := c.def_ 4 (d := d_is_word) rfl
  have F_is_word : Fun K "_is_word" "_is_word" s_is_word (He.ga K "_is_word") fd_is_word := fun_ofM F_is_word
  have g_is_word : mg "_is_word" = some (.ref (He.ga K "_is_word")) := He.glo_ok X G (c.fact 4 (f := .glo "_is_word") rfl)
  have b_is_word : Binds K fd_is_word ["row"] [] := F_is_word.binds fun _ _ _ _ _ _ us hl => match us, hl with | [_], _ => rfl
  obtain ⟨fd_is_heard, F_is_heard⟩ := c.def_ 5 (d := d_is_heard) rfl
  have F_is_heard : Fun K "_is_heard" "_is_heard" s_is_heard (He.ga K "_is_heard") fd_is_heard := fun_ofM F_is_heard
  have g_is_heard : mg "_is_heard" = some (.ref (He.ga K "_is_heard")) := He.glo_ok X G (c.fact 5 (f := .glo "_is_heard") rfl)
  have b_is_heard : Binds K fd_is_heard ["row"] [] := F_is_heard.binds fun _ _ _ _ _ _ us hl => match us, hl with | [_], _ => rfl
  obtain ⟨fd_need_rising, F_need_rising⟩ := c.def_ 6 (d := d_need_rising) rfl
  have F_need_rising : Fun K "_need_rising" "_need_rising" s_need_rising (He.ga K "_need_rising") fd_need_rising := fun_ofM F_need_rising
  have g_need_rising : mg "_need_rising" = some (.ref (He.ga K "_need_rising")) := He.glo_ok X G (c.fact 6 (f := .glo "_need_rising") rfl)
  have b_need_rising : Binds K fd_need_rising ["rows", "fits"] [] := F_need_rising.binds fun _ _ _ _ _ _ us hl => match us, hl with | [_, _], _ => rfl
  obtain ⟨fd_parted, F_parted⟩ := c.def_ 7 (d := d_parted) rfl
  have F_parted : Fun K "parted" "parted" s_parted (He.ga K "parted") fd_parted := fun_ofM F_parted
  have g_parted : mg "parted" = some (.ref (He.ga K "parted")) := He.glo_ok X G (c.fact 7 (f := .glo "parted") rfl)
  have b_parted : Binds K fd_parted ["words", "heard"] [] := F_parted.binds fun _ _ _ _ _ _ us hl => match us, hl with | [_, _], _ => rfl
  obtain ⟨fd_law_cell, F_law_cell⟩ := c.def_ 8 (d := d_law_cell) rfl
  have F_law_cell : Fun K "_law_cell" "_law_cell" s_law_cell (He.ga K "_law_cell") fd_law_cell := fun_ofM F_law_cell
  have g_law_cell : mg "_law_cell" = some (.ref (He.ga K "_law_cell")) := He.glo_ok X G (c.fact 8 (f := .glo "_law_cell") rfl)
  have b_law_cell : Binds K fd_law_cell ["script", "k"] [] := F_law_cell.binds fun _ _ _ _ _ _ us hl => match us, hl with | [_, _], _ => rfl
  obtain ⟨fd_law_pot, F_law_pot⟩ := c.def_ 9 (d := d_law_pot) rfl
  have F_law_pot : Fun K "_law_pot" "_law_pot" s_law_pot (He.ga K "_law_pot") fd_law_pot := fun_ofM F_law_pot
  have g_law_pot : mg "_law_pot" = some (.ref (He.ga K "_law_pot")) := He.glo_ok X G (c.fact 9 (f := .glo "_law_pot") rfl)
  have b_law_pot : Binds K fd_law_pot ["cell"] [] := F_law_pot.binds fun _ _ _ _ _ _ us hl => match us, hl with | [_], _ => rfl
  obtain ⟨fd_law_pull, F_law_pull⟩ := c.def_ 10 (d := d_law_pull) rfl
  have F_law_pull : Fun K "_law_pull" "_law_pull" s_law_pull (He.ga K "_law_pull") fd_law_pull := fun_ofM F_law_pull
  have g_law_pull : mg "_law_pull" = some (.ref (He.ga K "_law_pull")) := He.glo_ok X G (c.fact 10 (f := .glo "_law_pull") rfl)
  have b_law_pull : Binds K fd_law_pull ["pot", "size"] [] := F_law_pull.binds fun _ _ _ _ _ _ us hl => match us, hl with | [_, _], _ => rfl
  obtain ⟨fd_law_phrase, F_law_phrase⟩ := c.def_ 11 (d := d_law_phrase) rfl
  have F_law_phrase : Fun K "_law_phrase" "_law_phrase" s_law_phrase (He.ga K "_law_phrase") fd_law_phrase := fun_ofM F_law_phrase
  have g_law_phrase : mg "_law_phrase" = some (.ref (He.ga K "_law_phrase")) := He.glo_ok X G (c.fact 11 (f := .glo "_law_phrase") rfl)
  have b_law_phrase : Binds K fd_law_phrase ["pot"] [] := F_law_phrase.binds fun _ _ _ _ _ _ us hl => match us, hl with | [_], _ => rfl
  obtain ⟨fd_law_told_rows, F_law_told_rows⟩ := c.def_ 12 (d := d_law_told_rows) rfl
  have F_law_told_rows : Fun K "_law_told_rows" "_law_told_rows" s_law_told_rows (He.ga K "_law_told_rows") fd_law_told_rows := fun_ofM F_law_told_rows
  have g_law_told_rows : mg "_law_told_rows" = some (.ref (He.ga K "_law_told_rows")) := He.glo_ok X G (c.fact 12 (f := .glo "_law_told_rows") rfl)
  have b_law_told_rows : Binds K fd_law_told_rows ["pot"] [] := F_law_told_rows.binds fun _ _ _ _ _ _ us hl => match us, hl with | [_], _ => rfl
  obtain ⟨fd_law_heard_rows, F_law_heard_rows⟩ := c.def_ 13 (d := d_law_heard_rows) rfl
  have F_law_heard_rows : Fun K "_law_heard_rows" "_law_heard_rows" s_law_heard_rows (He.ga K "_law_heard_rows") fd_law_heard_rows := fun_ofM F_law_heard_rows
  have g_law_heard_rows : mg "_law_heard_rows" = some (.ref (He.ga K "_law_heard_rows")) := He.glo_ok X G (c.fact 13 (f := .glo "_law_heard_rows") rfl)
  have b_law_heard_rows : Binds K fd_law_heard_rows ["pot", "told"] [] := F_law_heard_rows.binds fun _ _ _ _ _ _ us hl => match us, hl with | [_, _], _ => rfl
  obtain ⟨fd_law_parting, F_law_parting⟩ := c.def_ 14 (d := d_law_parting) rfl
  have F_law_parting : Fun K "_law_parting" "_law_parting" s_law_parting (He.ga K "_law_parting") fd_law_parting := fun_ofM F_law_parting
  have g_law_parting : mg "_law_parting" = some (.ref (He.ga K "_law_parting")) := He.glo_ok X G (c.fact 14 (f := .glo "_law_parting") rfl)
  have b_law_parting : Binds K fd_law_parting ["told", "heard_rows"] [] := F_law_parting.binds fun _ _ _ _ _ _ us hl => match us, hl with | [_, _], _ => rfl
  obtain ⟨fd_law_one_right, F_law_one_right⟩ := c.def_ 15 (d := d_law_one_right) rfl
  have F_law_one_right : Fun K "_law_one_right" "_law_one_right" s_law_one_right (He.ga K "_law_one_right") fd_law_one_right := fun_ofM F_law_one_right
  have g_law_one_right : mg "_law_one_right" = some (.ref (He.ga K "_law_one_right")) := He.glo_ok X G (c.fact 15 (f := .glo "_law_one_right") rfl)
  have b_law_one_right : Binds K fd_law_one_right ["told", "heard_rows"] [] := F_law_one_right.binds fun _ _ _ _ _ _ us hl => match us, hl with | [_, _], _ => rfl
  obtain ⟨fd_law_right, F_law_right⟩ := c.def_ 16 (d := d_law_right) rfl
  have F_law_right : Fun K "_law_right" "_law_right" s_law_right (He.ga K "_law_right") fd_law_right := fun_ofM F_law_right
  have g_law_right : mg "_law_right" = some (.ref (He.ga K "_law_right")) := He.glo_ok X G (c.fact 16 (f := .glo "_law_right") rfl)
  have b_law_right : Binds K fd_law_right ["pot"] [] := F_law_right.binds fun _ _ _ _ _ _ us hl => match us, hl with | [_], _ => rfl
  obtain ⟨fd_law, F_law⟩ := c.def_ 17 (d := d_law) rfl
  have F_law : Fun K "law" "law" s_law (He.ga K "law") fd_law := fun_ofM F_law
  have g_law : mg "law" = some (.ref (He.ga K "law")) := He.glo_ok X G (c.fact 17 (f := .glo "law") rfl)
  have b_law : Binds K fd_law ["script"] [] := F_law.binds fun _ _ _ _ _ _ us hl => match us, hl with | [_], _ => rfl

  have T : Txt K mg := ⟨He.free_ok X G (c.fact 18 (f := .free "type") rfl), He.free_ok X G (c.fact 19 (f := .free "int") rfl), He.free_ok X G (c.fact 20 (f := .free "bool") rfl), He.free_ok X G (c.fact 21 (f := .free "str") rfl), He.free_ok X G (c.fact 22 (f := .free "tuple") rfl), He.free_ok X G (c.fact 23 (f := .free "len") rfl), He.free_ok X G (c.fact 24 (f := .free "all") rfl), He.free_ok X G (c.fact 25 (f := .free "isinstance") rfl), He.free_ok X G (c.fact 26 (f := .free "abs") rfl), He.free_ok X G (c.fact 27 (f := .free "divmod") rfl), He.free_ok X G (c.fact 28 (f := .free "list") rfl), He.free_ok X G (c.fact 29 (f := .free "min") rfl), He.free_ok X G (c.fact 30 (f := .free "max") rfl), He.free_ok X G (c.fact 31 (f := .free "range") rfl), He.free_ok X G (c.fact 32 (f := .free "repr") rfl), He.free_ok X G (c.fact 33 (f := .free "enumerate") rfl), He.free_ok X G (c.fact 34 (f := .free "sorted") rfl), He.free_ok X G (c.fact 35 (f := .free "set") rfl), He.free_ok X G (c.fact 36 (f := .free "dict") rfl), He.int_ok X G (c.fact 37 (f := .int "MOST_SIGNS" 20) rfl), He.int_ok X G (c.fact 38 (f := .int "MOST_NUMBER" 9999) rfl), He.int_ok X G (c.fact 39 (f := .int "MOST_ROUND" 999) rfl), He.str_ok X G (c.fact 40 (f := .str "TEXT_SIGNS" "abcdefghijklmnopqrstuvwxyz0123456789 ") rfl)⟩

  have e0 := hfa.symm.trans g_law
  cases e0
  refine ⟨fd_law, fun s u => by
    have q := F_law.ex
    obtain ⟨oc, od, kV, doc, pm, an, cdv, ct, osl, rfl, _, _⟩ := q
    exact .of_eq rfl, fun base _ _ => ?_⟩
  have D_is_whole : DefP P w K mg base "is_whole" 1 FisWhole := fun R => ⟨⟨_, _, _, ok_is_whole F_is_whole T, g_is_whole, F_is_whole.kp, b_is_whole⟩⟩
  have D_is_truth : DefP P w K mg base "is_truth" 1 (F1 isTruth) := fun R => ⟨⟨_, _, _, ok_is_truth F_is_truth T, g_is_truth, F_is_truth.kp, b_is_truth⟩⟩
  have D_is_text : DefP P w K mg base "is_text" 1 (F1 isText) := fun R => ⟨⟨_, _, _, ok_is_text F_is_text T, g_is_text, F_is_text.kp, b_is_text⟩⟩
  have D_is_placed : DefP P w K mg base "_is_placed" 2 Fplaced := fun R => ⟨⟨_, _, _, ok_is_placed F_is_placed T D_is_whole D_is_text, g_is_placed, F_is_placed.kp, b_is_placed⟩⟩
  have hW : ∀ R : Res, HeldG P w K mg base 3 (He.ga K "_is_word") (spD K R FisWord) := fun R => ⟨⟨_, _, ok_is_word F_is_word T D_is_placed, F_is_word.kp, b_is_word⟩⟩
  have hH : ∀ R : Res, HeldG P w K mg base 3 (He.ga K "_is_heard") (spD K R FisHeard) := fun R => ⟨⟨_, _, ok_is_heard F_is_heard T D_is_placed D_is_truth, F_is_heard.kp, b_is_heard⟩⟩
  have N_parted : ∀ R : Res, FnG P w K mg base 5 (He.ga K "parted") fd_parted ["words", "heard"] (spD K R Fparted) := fun R => okP_parted fun R0 h0 => ok_parted F_parted T g_is_word g_is_heard ⟨⟨_, _, ok_need_rising F_need_rising T hW hH, g_need_rising, F_need_rising.kp, b_need_rising, fun s u h => absurd h (by simp)⟩⟩
  have D_parted : ∀ R : Res, DefK2 P w K mg base "parted" "words" "heard" 5 (spD K R Fparted) := fun R => ⟨⟨_, _, N_parted R, g_parted, F_parted.kp, b_parted, fun s u1 u2 => by obtain ⟨oc, od, kV, doc, pm, an, cdv, ct, osl, rfl, _, _⟩ := F_parted.ex; exact .of_eq rfl⟩⟩
  have D_law_parting : DefP P w K mg base "_law_parting" 2 Fparting := fun R => ⟨⟨_, _, _, (okP_parting fun R0 h0 => ok_law_parting F_law_parting T), g_law_parting, F_law_parting.kp, b_law_parting⟩⟩
  have D_law_one_right : DefP P w K mg base "_law_one_right" 6 FoneR := fun R => ⟨⟨_, _, _, (okP_one_right fun R0 h0 => ok_law_one_right F_law_one_right T D_law_parting D_parted), g_law_one_right, F_law_one_right.kp, b_law_one_right⟩⟩
  have Y : ∀ a : Addr, FnX P w K mg base 7 (He.ga K "_law_right") fd_law_right ["pot"] (spY K (symF K (Res.pot a) (fun _ => trivial)) (FrightY a)) := by
    intro a
    have hp : PotAt a (Res.pot a) := .one a
    have D_law_pull : DefPot P w K mg base a "_law_pull" 1 (Fpull a) := fun hp => ⟨⟨_, _, _, ok_law_pull hp F_law_pull T, g_law_pull, F_law_pull.kp, b_law_pull⟩⟩
    have D_law_phrase : DefPot P w K mg base a "_law_phrase" 2 (Fphrase a) := fun hp => ⟨⟨_, _, _, ok_law_phrase hp F_law_phrase T D_law_pull, g_law_phrase, F_law_phrase.kp, b_law_phrase⟩⟩
    have Y_law_told_rows : DefX P w K mg base "_law_told_rows" ["pot"] 3 (spY K (symF K (Res.pot a) (fun _ => trivial)) (FtoldR a)) := ⟨⟨_, _, ok_law_told_rows hp F_law_told_rows T D_law_pull D_law_phrase, g_law_told_rows, F_law_told_rows.kp, b_law_told_rows, fun s u _ => by obtain ⟨oc, od, kV, doc, pm, an, cdv, ct, osl, rfl, _, _⟩ := F_law_told_rows.ex; exact .of_eq rfl⟩⟩
    have Y_law_heard_rows : DefX P w K mg base "_law_heard_rows" ["pot", "told"] 3 (spY K (symF K (Res.pot a) (fun _ => trivial)) (FheardR a)) := ⟨⟨_, _, ok_law_heard_rows hp F_law_heard_rows T D_law_pull D_law_phrase, g_law_heard_rows, F_law_heard_rows.kp, b_law_heard_rows, fun s u h => absurd h (by simp)⟩⟩
    exact ok_law_right hp F_law_right T D_law_one_right Y_law_told_rows Y_law_heard_rows
  have D_law_right : Def P w K mg base "_law_right" 8 (spAnyPot K Fright) := ⟨⟨_, _, _, right_any Y, g_law_right, F_law_right.kp, b_law_right⟩⟩
  have D_law_cell : ∀ (a : Addr) (ns : List Int), ns.length ≤ 16777216 → ∀ {R : Res}, ScrAt K a ns R → Def P w K mg base "_law_cell" 1 (spD K R (Fcell a)) := fun a ns hns R hS => ⟨⟨_, _, _, ok_law_cell hS hns F_law_cell T, g_law_cell, F_law_cell.kp, b_law_cell⟩⟩
  have D_law_pot : Def P w K mg base "_law_pot" 1 spPot := ⟨⟨_, _, _, ok_law_pot F_law_pot T, g_law_pot, F_law_pot.kp, b_law_pot⟩⟩
  refine ⟨fun vs H Q E ⟨a, ns, e, _⟩ => by rw [e]; rfl, fun A outer s H args us vs Q E hr hg e0 hb r ⟨a, ns, ev, hS, hl, hq⟩ => ?_⟩
  obtain ⟨R, _, hs, hscr⟩ := scr_ex hS
  have hz : ns.length ≤ 16777216 := by omega
  exact (ok_law hscr hz F_law T (D_law_cell a ns hz) D_law_pot D_law_right).run A outer s H args us vs Q E hr hg e0 hb r ⟨[.ptr a], fun d => d = .bl true, by rw [ev]; exact .cons (.ptr a) .nil, hs, ⟨rfl, rfl⟩, fun d v H' e rv _ _ => by subst e; cases rv; exact hq H'⟩
theorem walk {l : PySem.W.OpenLaw} {q : Program} {loose : List Str} {XP : (Str → Option Value) → Heap → Prop} {YP : World → Heap → Prop} {d : DefRec} {K : Params → PySem.W.Frag} (hn : l.most = some 63) (hdf : d.params.defaults = []) (hnm : d.name = ("law" : Str)) (hY : ∀ (w : World) (h : Heap), YP w h → (K w.params).In h)
   (h1 : ∀ w : World, fa.all (fun f => f.ok (K w.params)) = true) (h1b : ∀ w : World, fn.all (fun f => f.ok (K w.params)) = true) (h1c : ∀ w : World, fn.map (fun d => He.fnW (K w.params) d.at_) = fn.map He.DefD.val)
   (h3 : ∀ w : World, ex (K w.params) = true) : PySem.W.WalkO q loose XP YP l.row.toRowW d [] (fun f vs => PySem.call f vs) :=
  walk_G (n := 63) (k := 9) (x := "script") hn (by rw [sizeLine_eq]; decide) hdf ⟨rfl, by decide, by decide⟩ fun w mg fa h Y G hmg => by
    rw [hnm] at hmg
    obtain ⟨fd, hb, hF⟩ := facts (P := l.prog) (w := w) (hY w h Y) G hmg (h1 w) (h1b w) (h1c w) (h3 w)
    exact ⟨K w.params, fd, hY w h Y, hb, hF⟩
end K36

set_option Elab.async false
set_option linter.all false
set_option maxRecDepth 100000
open PySem PySem.W PyProof.Rows in
set_option maxRecDepth 100000 in
set_option maxHeartbeats 0 in
theorem PySem.Challenge.cw_gapfill_k36_where_books_part_holds : PySem.Challenge.rw_gapfill_k36_where_books_part.Holds := by
  w_on; o_law; k_head; (case hw => w_witness2)
  k_fill
  refine K36.walk (l := PySem.Challenge.rw_gapfill_k36_where_books_part) rfl rfl rfl (fun w h Y => PySem.W.kIn_of Y) ?h1 ?h1b ?h1c ?h3
  case h1 => intro w; kernel_rfl
  case h1b => intro w; kernel_rfl
  case h1c => intro w; kernel_rfl
  case h3 => intro w; kernel_rfl
