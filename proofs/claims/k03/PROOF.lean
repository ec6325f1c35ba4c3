import PyProof.Rows.All
import Wide.All
import OpenK.AllK
import Wide.FinOn
import HandS.ForMost
import HandS.IsInst
import HandS.TupAny
import HandS.More
import HandS.CallLocal
import PyProof.TypeEq
import PyProof.ReprReads
import PyProof.InstEq
import HandS.Walk
import HandS.Text
import HandS.WideBits
import PyProof.ReprRoads
import PyProof.ReprLen
import PyProof.StrLaws
import HandS.Comp
import PyProof.Rows.StrCase
import HandS.HeadHook4
import HandS.HeadEnd
import HandS.ExcOwn
import HandS.ExcIs
import HandS.WordsExc
import HandS.HotCalls
import KE.KTryMore
import HandS.ExcInitHot
import HandS.SetFor
import PyProof.StrLawsOccR
import PyProof.Rows.StrSplitMax
import HandS.FStr
import HandS.StrSplit
import HandS.TryOnly
import HandS.RaiseMore
import KE.GoesEnumKw
import PyProof.Rows.CallKwBuiltin
import PySem.Challenge.RW_gapfill_k03_letters_written_and_read
set_option Elab.async false
set_option linter.all false
set_option maxRecDepth 100000
set_option maxHeartbeats 4000000
/-! The data layer: readings that speak of data, not of the heap. -/
namespace Dl
open PySem PySem.Spec PyProof.Rows L2

/-- data; ptr: an object by its address (a pot, a def); seq: a list that is not shown; ty: a built-in class -/
inductive D where
  | non | bl (b : Bool) | int (i : Int) | str (x : Str) | tup (xs : List D) | lst (xs : List D) | emp | ptr (a : Addr) | seq (xs : List D) | ty (n : String)

/-- a tuple that is read and never one of the objects that may change -/
def SqTp (K : PySem.W.Frag) (p : List Addr) (H : Hp) (a : Addr) (xs : List V) : Prop :=
  (Rd H a (.tup xs) ∧ a ∉ p) ∨
    ∃ (o : Obj) (its : Array Value) (n : Nat), K.lookup a = some o ∧ o.cls = .type "tuple" ∧ o.data = .seq its n ∧ its.size ≤ sizeLine ∧ Vals xs its.toList
theorem SqTp.sq {K p H a xs} (h : SqTp K p H a xs) : SqT K H a xs := by
  rcases h with ⟨h, _⟩ | h
  · exact .inl h
  · exact .inr h
/-- all that is tracked stays, but what p names -/
def Ext (p : List Addr) (H H' : Hp) : Prop := ∀ b o, b ∉ p → H b = some o → H' b = some o
theorem Ext.refl (p H) : Ext p H H := fun _ _ _ h => h
theorem Ext.trans {p H H1 H2} (a : Ext p H H1) (b : Ext p H1 H2) : Ext p H H2 := fun c o n h => b c o n (a c o n h)
theorem Ext.of_same {p H H'} (h : Same H H') : Ext p H H' := fun b o _ e => h b o e
theorem Ext.new {p H a o} (h : H a = none) : Ext p H (upd H a o) := fun b u _ e => by
  rw [upd_ne (ne_of_none e h)]
  exact e
/-- what data that avoids p sees of a heap stays -/
abbrev Sees (p : List Addr) (H H' : Hp) : Prop := Ext p H H'
theorem SqTp.mono {K p H H' a xs} (e : Ext p H H') (h : SqTp K p H a xs) : SqTp K p H' a xs := by
  rcases h with ⟨h, n⟩ | h
  · rcases h with h | ⟨o, h⟩
    · exact .inl ⟨.inl (e _ _ n h), n⟩
    · exact .inl ⟨.inr ⟨o, e _ _ n h⟩, n⟩
  · exact .inr h
theorem SqTp.weak {K p p' H a xs} (e : ∀ b ∈ p', b ∈ p) (h : SqTp K p H a xs) : SqTp K p' H a xs := by
  rcases h with ⟨h, n⟩ | h
  · exact .inl ⟨h, fun m => n (e _ m)⟩
  · exact .inr h

mutual
inductive Rep (K : PySem.W.Frag) (p : List Addr) (H : Hp) : V → D → Prop
  | non : Rep K p H .non .non
  | bl (b : Bool) : Rep K p H (.bl b) (.bl b)
  | int (i : Int) : Rep K p H (.int i) (.int i)
  | str (x : Str) : Rep K p H (.str x) (.str x)
  | tup {a : Addr} {xs : List V} {ds : List D} : SqTp K p H a xs → RepAll K p H xs ds → Rep K p H (.ref a) (.tup ds)
  | lst {a : Addr} {xs : List V} {ds : List D} : H a = some (.lst xs) → a ∉ p → a ≠ sysModules → RepAll K p H xs ds → Rep K p H (.ref a) (.lst ds)
  | emp {a : Addr} : H a = some (.dK []) → a ∉ p → Rep K p H (.ref a) .emp
  | ptr (a : Addr) : Rep K p H (.ref a) (.ptr a)
  | seq {a : Addr} {xs : List V} {ds : List D} : H a = some (.lst xs) → a ∉ p → RepAll K p H xs ds → Rep K p H (.ref a) (.seq ds)
  | ty (n : String) : Rep K p H (.ty n) (.ty n)
inductive RepAll (K : PySem.W.Frag) (p : List Addr) (H : Hp) : List V → List D → Prop
  | nil : RepAll K p H [] []
  | cons {v : V} {vs : List V} {d : D} {ds : List D} : Rep K p H v d → RepAll K p H vs ds → RepAll K p H (v :: vs) (d :: ds)
end
section
variable {K : PySem.W.Frag} {p : List Addr} {H H' : Hp}
mutual
theorem Rep.mono0 (e : Ext p H H') : ∀ {v : V} {d : D}, Rep K p H v d → Rep K p H' v d
  | _, _, .non => .non
  | _, _, .bl b => .bl b
  | _, _, .int i => .int i
  | _, _, .str x => .str x
  | _, _, .tup h r => .tup (h.mono e) (RepAll.mono0 e r)
  | _, _, .lst h n z r => .lst (e _ _ n h) n z (RepAll.mono0 e r)
  | _, _, .seq h n r => .seq (e _ _ n h) n (RepAll.mono0 e r)
  | _, _, .ty n => .ty n
  | _, _, .emp h n => .emp (e _ _ n h) n
  | _, _, .ptr a => .ptr a
theorem RepAll.mono0 (e : Ext p H H') : ∀ {vs : List V} {ds : List D}, RepAll K p H vs ds → RepAll K p H' vs ds
  | _, _, .nil => .nil
  | _, _, .cons h t => .cons (Rep.mono0 e h) (RepAll.mono0 e t)
end
mutual
theorem Rep.weak {p' : List Addr} (e : ∀ b ∈ p', b ∈ p) : ∀ {v : V} {d : D}, Rep K p H v d → Rep K p' H v d
  | _, _, .non => .non
  | _, _, .bl b => .bl b
  | _, _, .int i => .int i
  | _, _, .str x => .str x
  | _, _, .tup h r => .tup (h.weak e) (RepAll.weak e r)
  | _, _, .lst h n z r => .lst h (fun m => n (e _ m)) z (RepAll.weak e r)
  | _, _, .emp h n => .emp h (fun m => n (e _ m))
  | _, _, .ptr a => .ptr a
  | _, _, .seq h n r => .seq h (fun m => n (e _ m)) (RepAll.weak e r)
  | _, _, .ty n => .ty n
theorem RepAll.weak {p' : List Addr} (e : ∀ b ∈ p', b ∈ p) : ∀ {vs : List V} {ds : List D}, RepAll K p H vs ds → RepAll K p' H vs ds
  | _, _, .nil => .nil
  | _, _, .cons h t => .cons (Rep.weak e h) (RepAll.weak e t)
end
theorem RepAll.length : ∀ {vs : List V} {ds : List D}, RepAll K p H vs ds → vs.length = ds.length
  | _, _, .nil => rfl
  | _, _, .cons _ t => congrArg (· + 1) (RepAll.length t)
theorem RepAll.get : ∀ {vs : List V} {ds : List D} {i : Nat} {d : D}, RepAll K p H vs ds → ds[i]? = some d → ∃ v, vs[i]? = some v ∧ Rep K p H v d
  | _, _, _, _, .nil, e => by simp at e
  | _, _, 0, _, .cons r _, e => by simp at e; subst e; exact ⟨_, rfl, r⟩
  | _, _, i + 1, d, .cons _ t, e => by
    obtain ⟨v, h1, h2⟩ := RepAll.get (i := i) (d := d) t (by simpa using e)
    exact ⟨v, by simpa using h1, h2⟩
theorem RepAll.get' : ∀ {vs : List V} {ds : List D} {i : Nat} {v : V}, RepAll K p H vs ds → vs[i]? = some v → ∃ d, ds[i]? = some d ∧ Rep K p H v d
  | _, _, _, _, .nil, e => by simp at e
  | _, _, 0, _, .cons r _, e => by simp at e; subst e; exact ⟨_, rfl, r⟩
  | _, _, i + 1, v, .cons _ t, e => by
    obtain ⟨d, h1, h2⟩ := RepAll.get' (i := i) (v := v) t (by simpa using e)
    exact ⟨d, by simpa using h1, h2⟩
theorem RepAll.append : ∀ {xs ys : List V} {ds es : List D}, RepAll K p H xs ds → RepAll K p H ys es → RepAll K p H (xs ++ ys) (ds ++ es)
  | _, _, _, _, .nil, s => s
  | _, _, _, _, .cons r t, s => .cons r (RepAll.append t s)
theorem RepAll.take : ∀ {xs : List V} {ds : List D} (n : Nat), RepAll K p H xs ds → RepAll K p H (xs.take n) (ds.take n)
  | _, _, 0, _ => .nil
  | _, _, _ + 1, .nil => .nil
  | _, _, n + 1, .cons r t => .cons r (RepAll.take n t)
theorem RepAll.drop : ∀ {xs : List V} {ds : List D} (n : Nat), RepAll K p H xs ds → RepAll K p H (xs.drop n) (ds.drop n)
  | _, _, 0, r => r
  | _, _, _ + 1, .nil => .nil
  | _, _, n + 1, .cons _ t => RepAll.drop n t
theorem RepAll.reverse : ∀ {xs : List V} {ds : List D}, RepAll K p H xs ds → RepAll K p H xs.reverse ds.reverse
  | _, _, .nil => .nil
  | _, _, .cons r t => by
    rw [List.reverse_cons, List.reverse_cons]
    exact (RepAll.reverse t).append (.cons r .nil)
theorem RepAll.nil_iff {xs : List V} {ds : List D} (r : RepAll K p H xs ds) : xs = [] ↔ ds = [] := by
  have := r.length
  constructor
  · intro e; subst e; cases r; rfl
  · intro e; subst e; cases r; rfl
end

/-- p: the objects that may change; n: those that no data uses and that stay; what is known: Sp of the first, it leans on them alone, Ss of all that stays -/
structure Res where
  p : List Addr
  n : List Addr
  Sp : Hp → Prop
  Ss : Hp → Prop
  nin : ∀ H a, Sp H → Ss H → H a = none → a ∉ p ++ n
  dep : ∀ H H', (∀ a ∈ p, H' a = H a) → Sp H → Sp H'
  mono : ∀ H H', Ext p H H' → Ss H → Ss H'
def Res.S (R : Res) (H : Hp) : Prop := R.Sp H ∧ R.Ss H
theorem Res.new (R : Res) (H : Hp) (a : Addr) (o : HO) (h : R.S H) (n : H a = none) : R.S (upd H a o) := ⟨R.dep H _ (fun b m => by
  have ne : b ≠ a := fun e => R.nin H a h.1 h.2 n (List.mem_append_left _ (e ▸ m))
  exact upd_ne ne) h.1, R.mono H _ (Ext.new n) h.2⟩
/-- what data avoids -/
abbrev Res.av (R : Res) : List Addr := R.p ++ R.n
def Pot (R : Res) (H : Hp) : Prop := R.S H
theorem Pot.nin {R : Res} {H : Hp} {a : Addr} (h : Pot R H) (n : H a = none) : a ∉ R.av := R.nin H a h.1 h.2 n
/-- the parts that may change as at one heap, all else as ahead -/
theorem Pot.mix {R : Res} {H1 H2 H' : Hp} (h1 : Pot R H1) (e : Ext R.p H1 H') (h2 : Pot R H2) (k : ∀ a ∈ R.p, H' a = H2 a) : Pot R H' := ⟨R.dep H2 H' k h2.1, R.mono H1 H' e h1.2⟩
theorem Pot.new {R : Res} {H : Hp} {a : Addr} {o : HO} (h : Pot R H) (n : H a = none) : Pot R (upd H a o) := R.new H a o h n
theorem Ext.av {R : Res} {H H' : Hp} (e : Ext R.p H H') : Ext R.av H H' := fun b o n h => e b o (fun m => n (List.mem_append_left _ m)) h
theorem Rep.mono {K : PySem.W.Frag} {R : Res} {H H' : Hp} {v : V} {d : D} (h : Rep K R.av H v d) (e : Ext R.p H H') : Rep K R.av H' v d := Rep.mono0 e.av h
theorem RepAll.mono {K : PySem.W.Frag} {R : Res} {H H' : Hp} {v : List V} {d : List D} (h : RepAll K R.av H v d) (e : Ext R.p H H') : RepAll K R.av H' v d := RepAll.mono0 e.av h
/-- an object that data avoids is changed -/
theorem Ext.put {p : List Addr} {H : Hp} {a : Addr} {o : HO} (m : a ∈ p) : Ext p H (upd H a o) := fun b u n h => by
  have ne : b ≠ a := fun e => n (by rw [e]; exact m)
  rw [upd_ne ne]
  exact h
/-- nothing may change -/
def Res.none : Res := ⟨[], [], fun _ => True, fun _ => True, fun _ _ _ _ _ m => absurd m (by simp), fun _ _ _ _ => trivial, fun _ _ _ _ => trivial⟩
/-- one more that no data uses -/
def Res.add (R : Res) (A : Addr) : Res where
  p := R.p
  n := A :: R.n
  Sp := R.Sp
  Ss := fun H => R.Ss H ∧ A ∉ R.p ∧ H A ≠ Option.none
  nin := fun H a h ⟨h2, _, e⟩ n m => by
    rcases List.mem_append.mp m with m | m
    · exact R.nin H a h h2 n (List.mem_append_left _ m)
    · rcases List.mem_cons.mp m with rfl | m
      · exact e n
      · exact R.nin H a h h2 n (List.mem_append_right _ m)
  dep := R.dep
  mono := fun H H' k ⟨h, m, e⟩ => ⟨R.mono H H' k h, m, by
    cases q : H A with
    | none => exact absurd q e
    | some o => rw [k A o m q]; exact fun z => nomatch z⟩
theorem Pot.add {R : Res} {A : Addr} {H : Hp} (h : Pot R H) (m : A ∉ R.p) (e : H A ≠ Option.none) : Pot (R.add A) H := ⟨h.1, h.2, m, e⟩
theorem Pot.of_add {R : Res} {A : Addr} {H : Hp} (h : Pot (R.add A) H) : Pot R H := ⟨h.1, h.2.1⟩
theorem Res.add_av {R : Res} {A b : Addr} (h : b ∈ R.av) : b ∈ (R.add A).av := by
  rcases List.mem_append.mp h with m | m
  · exact List.mem_append_left _ m
  · exact List.mem_append_right _ (List.mem_cons_of_mem _ m)
theorem Res.add_mem {R : Res} {A : Addr} : A ∈ (R.add A).av := List.mem_append_right _ List.mem_cons_self
/-- a pot: a list of three ints that may change -/
structure PotAt (a : Addr) (R : Res) : Prop where
  mem : a ∈ R.p
  at_ : ∀ H, R.S H → ∃ x y z : Int, H a = some (.lst [.int x, .int y, .int z])
  put : ∀ H (x y z : Int), R.S H → R.S (upd H a (.lst [.int x, .int y, .int z]))
theorem PotAt.add {a A : Addr} {R : Res} (h : PotAt a R) : PotAt a (R.add A) := ⟨h.mem, fun H s => h.at_ H (Pot.of_add s), fun H x y z s => Pot.add (h.put H x y z (Pot.of_add s)) s.2.2.1 (by
  by_cases e : A = a
  · rw [e, upd_same]; exact fun q => nomatch q
  · rw [upd_ne e]; exact s.2.2.2)⟩
/-- the one pot at a -/
def Res.pot (a : Addr) : Res where
  p := [a]
  n := []
  Sp := fun H => ∃ x y z : Int, H a = some (.lst [.int x, .int y, .int z])
  Ss := fun _ => True
  nin := fun H b ⟨x, y, z, e⟩ _ n m => by
    have e' : b = a := by simpa using m
    subst e'
    rw [n] at e; cases e
  dep := fun H H' k ⟨x, y, z, e⟩ => ⟨x, y, z, by rw [k a (by simp)]; exact e⟩
  mono := fun _ _ _ _ => trivial
theorem PotAt.one (a : Addr) : PotAt a (Res.pot a) := ⟨by show a ∈ [a]; simp, fun _ h => h.1, fun H x y z _ => ⟨⟨x, y, z, upd_same⟩, trivial⟩⟩

/-- the slots, as data -/
abbrev DE := List (Option D)
def REnv (K : PySem.W.Frag) (p : List Addr) (H : Hp) (σ : L2.St) (ρ : DE) : Prop :=
  ρ.length = σ.length ∧ ∀ (i : Nat) (d : D), ρ[i]? = some (some d) → ∃ v, σ[i]? = some (some v) ∧ Rep K p H v d
theorem REnv.mono0 {K p H H'} {σ : L2.St} {ρ : DE} (e : Ext p H H') (h : REnv K p H σ ρ) : REnv K p H' σ ρ := ⟨h.1, fun i d q => by
  obtain ⟨v, h1, h2⟩ := h.2 i d q
  exact ⟨v, h1, h2.mono0 e⟩⟩
theorem REnv.mono {K : PySem.W.Frag} {R : Res} {H H' : Hp} {σ : L2.St} {ρ : DE} (h : REnv K R.av H σ ρ) (e : Ext R.p H H') : REnv K R.av H' σ ρ := h.mono0 e.av
theorem REnv.set {K p H} {σ : L2.St} {ρ : DE} {v d} (h : REnv K p H σ ρ) (r : Rep K p H v d) (i : Nat) : REnv K p H (σ.set i (some v)) (ρ.set i (some d)) := by
  refine ⟨by rw [List.length_set, List.length_set]; exact h.1, fun j e q => ?_⟩
  by_cases hj : i = j
  · subst hj
    have hl : i < ρ.length := by
      have := (List.getElem?_eq_some_iff.mp q).1
      rwa [List.length_set] at this
    rw [List.getElem?_set_self hl] at q
    cases q
    exact ⟨v, List.getElem?_set_self (by rw [← h.1]; exact hl), r⟩
  · rw [List.getElem?_set_ne hj] at q
    rw [List.getElem?_set_ne hj]
    exact h.2 j e q
theorem REnv.get {K p H} {σ : L2.St} {ρ : DE} {i : Nat} {d : D} (h : REnv K p H σ ρ) (q : ρ[i]? = some (some d)) : ∃ v, σ[i]? = some (some v) ∧ Rep K p H v d := h.2 i d q

/-- what is wanted of a value -/
def Fin (K : PySem.W.Frag) (p : Res) (H : Hp) (q : D → Prop) (Q : VK) : Prop := ∀ d v H', q d → Rep K p.av H' v d → Ext p.p H H' → Pot p H' → Q v H'
def FinB (p : Res) (H : Hp) (q : Bool → Prop) (Q : Bool → Hp → Prop) : Prop := ∀ b H', q b → Ext p.p H H' → Pot p H' → Q b H'
def FinA (K : PySem.W.Frag) (p : Res) (H : Hp) (q : List D → Prop) (Q : List V → Hp → Prop) : Prop := ∀ ds vs H', q ds → RepAll K p.av H' vs ds → Ext p.p H H' → Pot p H' → Q vs H'
theorem Fin.step {K} {p : Res} {H H' q Q} (e : Ext p.p H H') (f : Fin K p H q Q) : Fin K p H' q Q := fun d v H'' h r x t => f d v H'' h r (e.trans x) t
theorem FinB.step {p : Res} {H H' q Q} (e : Ext p.p H H') (f : FinB p H q Q) : FinB p H' q Q := fun b H'' h x t => f b H'' h (e.trans x) t
theorem FinA.step {K} {p : Res} {H H' q Q} (e : Ext p.p H H') (f : FinA K p H q Q) : FinA K p H' q Q := fun d v H'' h r x t => f d v H'' h r (e.trans x) t

abbrev TDE := DE → (D → Prop) → Prop
abbrev TDT := DE → (Bool → Prop) → Prop
abbrev TDA := DE → (List D → Prop) → Prop
structure DEnds where
  nx : DE → Prop
  rt : D → Prop
abbrev TDS := DEnds → DE → Prop
def tD (K : PySem.W.Frag) (p : Res) (t : TDE) : TE := fun σ H Q => ∃ ρ q, REnv K p.av H σ ρ ∧ Pot p H ∧ t ρ q ∧ Fin K p H q Q
def tDT (K : PySem.W.Frag) (p : Res) (t : TDT) : TT := fun σ H Q => ∃ ρ q, REnv K p.av H σ ρ ∧ Pot p H ∧ t ρ q ∧ FinB p H q Q
def tDA (K : PySem.W.Frag) (p : Res) (t : TDA) : TA := fun σ H Q => ∃ ρ q, REnv K p.av H σ ρ ∧ Pot p H ∧ t ρ q ∧ FinA K p H q Q
structure FinS (K : PySem.W.Frag) (p : Res) (H : Hp) (e : DEnds) (E : Ends) : Prop where
  nx : ∀ ρ σ H', e.nx ρ → REnv K p.av H' σ ρ → Ext p.p H H' → Pot p H' → E.nx σ H'
  rt : Fin K p H e.rt E.rt
theorem FinS.step {K} {p : Res} {H H' e E} (x : Ext p.p H H') (f : FinS K p H e E) : FinS K p H' e E := ⟨fun ρ σ H'' h r y t => f.nx ρ σ H'' h r (x.trans y) t, f.rt.step x⟩
def tDS (K : PySem.W.Frag) (p : Res) (t : TDS) : TS := fun E σ H => ∃ ρ e, REnv K p.av H σ ρ ∧ Pot p H ∧ t e ρ ∧ FinS K p H e E

abbrev EE (X : Cx) (p : Res) (e : Expr) (t : TDE) : Prop := PE X e (tD X.K p t)
abbrev ET (X : Cx) (p : Res) (e : Expr) (t : TDT) : Prop := PT X e (tDT X.K p t)
abbrev EW (X : Cx) (p : Res) (e : Expr) (t : TDT) : Prop := PW X e (tDT X.K p t)
abbrev EA (X : Cx) (p : Res) (es : List Expr) (t : TDA) : Prop := PA X es (tDA X.K p t)
abbrev ES (X : Cx) (p : Res) (s : Stmt) (t : TDS) : Prop := PS X s (tDS X.K p t)
abbrev ESs (X : Cx) (p : Res) (s : List Stmt) (t : TDS) : Prop := PSs X s (tDS X.K p t)

section
variable {X : Cx} {p : Res}
theorem PE_imp {e : Expr} {t t' : TE} (h : PE X e t) (i : ∀ σ H Q, t' σ H Q → t σ H Q) : PE X e t' := ⟨fun pins s σ H Q I w => h.run pins s σ H Q I (i σ H Q w)⟩
theorem PT_imp {e : Expr} {t t' : TT} (h : PT X e t) (i : ∀ σ H Q, t' σ H Q → t σ H Q) : PT X e t' := ⟨fun pins s σ H Q I w => h.run pins s σ H Q I (i σ H Q w)⟩
theorem PW_imp {e : Expr} {t t' : TT} (h : PW X e t) (i : ∀ σ H Q, t' σ H Q → t σ H Q) : PW X e t' := ⟨fun wh pins s σ H Q I w => h.run wh pins s σ H Q I (i σ H Q w)⟩
theorem PA_imp {e : List Expr} {t t' : TA} (h : PA X e t) (i : ∀ σ H Q, t' σ H Q → t σ H Q) : PA X e t' := ⟨fun pos pins s σ H Q I w => h.run pos pins s σ H Q I (i σ H Q w)⟩
theorem PS_imp {e : Stmt} {t t' : TS} (h : PS X e t) (i : ∀ D σ H, t' D σ H → t D σ H) : PS X e t' := ⟨fun pins s σ H D I w => h.run pins s σ H D I (i D σ H w)⟩
theorem PSs_imp {e : List Stmt} {t t' : TS} (h : PSs X e t) (i : ∀ D σ H, t' D σ H → t D σ H) : PSs X e t' := ⟨fun pins s σ H D I w => h.run pins s σ H D I (i D σ H w)⟩
/-- a reading may be strengthened -/
theorem EE.imp {e : Expr} {t t' : TDE} (h : EE X p e t) (i : ∀ ρ q, t' ρ q → t ρ q) : EE X p e t' := PE_imp h fun σ H Q ⟨ρ, q, r, o, w, f⟩ => ⟨ρ, q, r, o, i _ _ w, f⟩

/-! ### names, constants -/
def vVar (i : Nat) : TDE := fun ρ q => ∃ d, ρ[i]? = some (some d) ∧ q d
def vC (d : D) : TDE := fun _ q => q d
theorem dv (i : Nat) {x : Str} {pos : Pos} (hN : X.N[i]? = some x := by rfl) (hv : Vis X.env.scope x := by first | exact Or.inl rfl | exact Or.inr (Or.inl rfl) | exact Or.inr (Or.inr rfl)) (hd : (x == ("__debug__" : Str)) = false := by decide)
    (hcd : (x == ("__classdict__" : Str)) = false := by decide) : EE X p (.Name x pos) (vVar i) := PE_imp (pe_var hN hv hd hcd) fun σ H Q ⟨ρ, q, r, o, ⟨d, e, w⟩, f⟩ => by
  obtain ⟨v, h1, h2⟩ := r.get e
  exact ⟨v, h1, f d v H w h2 (Ext.refl _ _) o⟩
theorem d_of_c {e : Expr} {v : V} {d : D} (h : PE X e (tC v)) (r : ∀ H, Rep X.K p.av H v d) : EE X p e (vC d) := PE_imp h fun σ H Q ⟨ρ, q, _, o, w, f⟩ => f d v H w (r H) (Ext.refl _ _) o
theorem d_int {i j pos} : EE X p (.Constant (.int i) j pos) (vC (.int i)) := d_of_c pe_int fun _ => .int i
theorem d_bl {i j pos} : EE X p (.Constant (.bool i) j pos) (vC (.bl i)) := d_of_c pe_bl fun _ => .bl i
theorem d_non {j pos} : EE X p (.Constant .none j pos) (vC .non) := d_of_c pe_non fun _ => .non
theorem d_str {i j pos} : EE X p (.Constant (.str i) j pos) (vC (.str i)) := d_of_c pe_str fun _ => .str i
theorem d_gint {x : Str} {i : Int} {t : Tok} {pos : Pos} (hm : X.mg x = some (.int i t)) (hg : Gl X x := by rfl) (hd : (x == ("__debug__" : Str)) = false := by decide) : EE X p (.Name x pos) (vC (.int i)) := d_of_c (v := .int i) (pe_glob hg hm ⟨t, rfl⟩ hd) fun _ => .int i
theorem d_gstr {x : Str} {i : Str} {t : Tok} {pos : Pos} (hm : X.mg x = some (.str i t)) (hg : Gl X x := by rfl) (hd : (x == ("__debug__" : Str)) = false := by decide) : EE X p (.Name x pos) (vC (.str i)) := d_of_c (v := .str i) (pe_glob hg hm ⟨t, rfl⟩ hd) fun _ => .str i
theorem d_gptr {x : Str} {a : Addr} {pos : Pos} (hm : X.mg x = some (.ref a)) (hg : Gl X x := by rfl) (hd : (x == ("__debug__" : Str)) = false := by decide) : EE X p (.Name x pos) (vC (.ptr a)) := d_of_c (pe_glob (v := .ref a) hg hm rfl hd) fun _ => .ptr a

/-! ### operations by values -/
abbrev DOp := D → D → (D → Prop) → Prop
/-- a rule by values answers an operation on data -/
def OpD (K : PySem.W.Frag) (p : Res) (r : R2) (op : DOp) : Prop := ∀ x y dx dy H q Q, Rep K p.av H x dx → Rep K p.av H y dy → Pot p H → op dx dy q → Fin K p H q Q → r x y H Q
def vOp (op : DOp) (ta tb : TDE) : TDE := fun ρ q => ta ρ fun dx => tb ρ fun dy => op dx dy q
theorem tOp_of {r : R2} {op : DOp} {ta tb : TDE} (h : OpD X.K p r op) : ∀ σ H Q, tD X.K p (vOp op ta tb) σ H Q → tOp r (tD X.K p ta) (tD X.K p tb) σ H Q := by
  rintro σ H Q ⟨ρ, q, hr, ho, w, f⟩
  refine ⟨ρ, _, hr, ho, w, fun dx x H1 w1 r1 e1 o1 => ?_⟩
  refine ⟨ρ, _, hr.mono e1, o1, w1, fun dy y H2 w2 r2 e2 o2 => ?_⟩
  exact h x y dx dy H2 q Q (r1.mono e2) r2 o2 w2 (f.step (e1.trans e2))
theorem d_op {a b : Expr} {pos : Pos} {o : Operator} {r : R2} {op : DOp} {ta tb : TDE} (h : OpD X.K p r op) (ho : OpR X (binaryOp o) r) (ha : EE X p a ta) (hb : EE X p b tb) : EE X p (.BinOp a o b pos) (vOp op ta tb) := PE_imp (pe_op ho ha hb) (tOp_of h)
theorem d_cmp {a b : Expr} {pos : Pos} {o : CmpOp} {r : R2} {op : DOp} {ta tb : TDE} (h : OpD X.K p r op) (ho : OpR X (compareOp o) r) (ha : EE X p a ta) (hb : EE X p b tb) (hm : behindInMarks o b = false := by first | exact nomark _ | rfl) :
    EE X p (.Compare a [o] [b] pos) (vOp op ta tb) := PE_imp (pe_cmpR ho ha hb hm) (tOp_of h)
/-- a value as a test -/
def vT (t : TDE) : TDT := fun ρ q => t ρ fun d => ∃ b, d = .bl b ∧ q b
theorem FinB.of {K} {p : Res} {H} {q : Bool → Prop} {Q : Bool → Hp → Prop} (f : FinB p H q Q) : Fin K p H (fun d => ∃ b, d = .bl b ∧ q b) fun x H1 => ∃ c, x = .bl c ∧ Q c H1 := by
  rintro d v H' ⟨b, rfl, w⟩ r e o
  cases r
  exact ⟨b, rfl, f b H' w e o⟩
theorem tB_of {t : TDE} : ∀ σ H Q, tDT X.K p (vT t) σ H Q → tB (tD X.K p t) σ H Q := fun σ H Q ⟨ρ, q, hr, ho, w, f⟩ => ⟨ρ, _, hr, ho, w, f.of⟩
theorem t_cmp {a b : Expr} {pos : Pos} {o : CmpOp} {r : R2} {op : DOp} {ta tb : TDE} (h : OpD X.K p r op) (ho : OpR X (compareOp o) r) (ha : EE X p a ta) (hb : EE X p b tb) (hm : behindInMarks o b = false := by first | exact nomark _ | rfl) :
    ET X p (.Compare a [o] [b] pos) (vT (vOp op ta tb)) := PT_imp (pt_cmpR ho ha hb hm) fun σ H Q ⟨ρ, q, hr, h0, w, f⟩ => tOp_of h σ H _ ⟨ρ, _, hr, h0, w, f.of⟩
/-- any other expression whose value is a bool -/
theorem t_val {e : Expr} {t : TDE} (h : EE X p e t) (he : ∀ whole, isTrue e X.env whole = (do let v ← whole; standAt e.pos; holding [v] (truthy v)) := by intro _; rfl) : ET X p e (vT t) := PT_imp (pt_val h he) tB_of

/-! ### and, or, not, a if c else b -/
def vAndV (ta tb : TDE) : TDE := fun ρ q => ta ρ fun d => ∃ b, d = .bl b ∧ if b = true then tb ρ q else q (.bl false)
def vOrV (ta tb : TDE) : TDE := fun ρ q => ta ρ fun d => ∃ b, d = .bl b ∧ if b = true then q (.bl true) else tb ρ q
def vNotV (ta : TDE) : TDE := fun ρ q => ta ρ fun d => ∃ b, d = .bl b ∧ q (.bl (!b))
def vAnd (ta tb : TDT) : TDT := fun ρ q => ta ρ fun b => if b = true then tb ρ q else q false
def vOr (ta tb : TDT) : TDT := fun ρ q => ta ρ fun b => if b = true then q true else tb ρ q
def vNot (ta : TDT) : TDT := fun ρ q => ta ρ fun b => q (!b)
variable {a b c : Expr} {pos : Pos} {rest : List Expr} {ta tb tc : TDE} {ua ub : TDT}
theorem d_one {o : BoolOp} (h : EE X p a ta) : EE X p (.BoolOp o [a] pos) ta := pe_one h
theorem d_and (ha : EE X p a ta) (hb : EE X p (.BoolOp .And (b :: rest) pos) tb) : EE X p (.BoolOp .And (a :: b :: rest) pos) (vAndV ta tb) := PE_imp (pe_and ha hb) fun σ H Q ⟨ρ, q, hr, ho, w, f⟩ => by
  refine ⟨ρ, _, hr, ho, w, ?_⟩
  rintro d v H1 ⟨k, rfl, w1⟩ r e o
  cases r
  refine ⟨k, rfl, ?_⟩
  cases k with
  | true => rw [if_pos rfl] at w1 ⊢; exact ⟨ρ, q, hr.mono e, o, w1, f.step e⟩
  | false => rw [if_neg Bool.false_ne_true] at w1 ⊢; exact f _ _ H1 w1 (.bl _) e o
theorem d_or (ha : EE X p a ta) (hb : EE X p (.BoolOp .Or (b :: rest) pos) tb) : EE X p (.BoolOp .Or (a :: b :: rest) pos) (vOrV ta tb) := PE_imp (pe_or ha hb) fun σ H Q ⟨ρ, q, hr, ho, w, f⟩ => by
  refine ⟨ρ, _, hr, ho, w, ?_⟩
  rintro d v H1 ⟨k, rfl, w1⟩ r e o
  cases r
  refine ⟨k, rfl, ?_⟩
  cases k with
  | true => rw [if_pos rfl] at w1 ⊢; exact f _ _ H1 w1 (.bl _) e o
  | false => rw [if_neg Bool.false_ne_true] at w1 ⊢; exact ⟨ρ, q, hr.mono e, o, w1, f.step e⟩
theorem d_not (ha : EE X p a ta) : EE X p (.UnaryOp .Not a pos) (vNotV ta) := PE_imp (pe_not ha) fun σ H Q ⟨ρ, q, hr, ho, w, f⟩ => by
  refine ⟨ρ, _, hr, ho, w, ?_⟩
  rintro d v H1 ⟨k, rfl, w1⟩ r e o
  cases r
  exact ⟨k, rfl, f _ _ H1 w1 (.bl _) e o⟩
theorem t_and1 (ha : ET X p a ua) : EW X p (.BoolOp .And [a] pos) ua := pw_and1 ha
theorem t_or1 (ha : ET X p a ua) : EW X p (.BoolOp .Or [a] pos) ua := pw_or1 ha
theorem t_and (ha : ET X p a ua) (hb : EW X p (.BoolOp .And (b :: rest) pos) ub) : EW X p (.BoolOp .And (a :: b :: rest) pos) (vAnd ua ub) := PW_imp (pw_and ha hb) fun σ H Q ⟨ρ, q, hr, ho, w, f⟩ => by
  refine ⟨ρ, _, hr, ho, w, ?_⟩
  rintro k H1 w1 e o
  cases k with
  | true => rw [if_pos rfl] at w1 ⊢; exact ⟨ρ, q, hr.mono e, o, w1, f.step e⟩
  | false => rw [if_neg Bool.false_ne_true] at w1 ⊢; exact f _ H1 w1 e o
theorem t_or (ha : ET X p a ua) (hb : EW X p (.BoolOp .Or (b :: rest) pos) ub) : EW X p (.BoolOp .Or (a :: b :: rest) pos) (vOr ua ub) := PW_imp (pw_or ha hb) fun σ H Q ⟨ρ, q, hr, ho, w, f⟩ => by
  refine ⟨ρ, _, hr, ho, w, ?_⟩
  rintro k H1 w1 e o
  cases k with
  | true => rw [if_pos rfl] at w1 ⊢; exact f _ H1 w1 e o
  | false => rw [if_neg Bool.false_ne_true] at w1 ⊢; exact ⟨ρ, q, hr.mono e, o, w1, f.step e⟩
theorem t_not (ha : ET X p a ua) : ET X p (.UnaryOp .Not a pos) (vNot ua) := PT_imp (pt_not ha) fun σ H Q ⟨ρ, q, hr, ho, w, f⟩ => ⟨ρ, _, hr, ho, w, fun k H1 w1 e o => f _ H1 w1 e o⟩
def vIf (t : TDT) (ta tb : TDE) : TDE := fun ρ q => t ρ fun k => if k = true then ta ρ q else tb ρ q
theorem d_ifExp (hc : ET X p c ua) (ha : EE X p a ta) (hb : EE X p b tb) : EE X p (.IfExp c a b pos) (vIf ua ta tb) := PE_imp (pe_ifExp hc ha hb) fun σ H Q ⟨ρ, q, hr, ho, w, f⟩ => by
  refine ⟨ρ, _, hr, ho, w, ?_⟩
  rintro k H1 w1 e o
  cases k with
  | true => rw [if_pos rfl] at w1 ⊢; exact ⟨ρ, q, hr.mono e, o, w1, f.step e⟩
  | false => rw [if_neg Bool.false_ne_true] at w1 ⊢; exact ⟨ρ, q, hr.mono e, o, w1, f.step e⟩

/-! ### chains -/
/-- a op b op' c -/
def vChain (op op' : DOp) (ta tb tc : TDE) : TDE := fun ρ q => ta ρ fun dx => tb ρ fun dy => op dx dy fun z => ∃ k, z = .bl k ∧ if k = true then tc ρ fun dz => op' dy dz q else q (.bl false)
theorem tChain_of {r r' : R2} {op op' : DOp} (h : OpD X.K p r op) (h' : OpD X.K p r' op') : ∀ σ H Q, tD X.K p (vChain op op' ta tb tc) σ H Q → tChain r r' (tD X.K p ta) (tD X.K p tb) (tD X.K p tc) σ H Q := by
  rintro σ H Q ⟨ρ, q, hr, ho, w, f⟩
  refine ⟨ρ, _, hr, ho, w, fun dx x H1 w1 r1 e1 o1 => ?_⟩
  refine ⟨ρ, _, hr.mono e1, o1, w1, fun dy y H2 w2 r2 e2 o2 => ?_⟩
  refine h x y dx dy H2 _ _ (r1.mono e2) r2 o2 w2 ?_
  rintro d z H3 ⟨k, rfl, w3⟩ r3 e3 o3
  cases r3
  refine ⟨k, rfl, ?_⟩
  have e := (e1.trans e2).trans e3
  cases k with
  | true =>
    rw [if_pos rfl] at w3 ⊢
    refine ⟨ρ, _, hr.mono e, o3, w3, fun dz z H4 w4 r4 e4 o4 => ?_⟩
    exact h' y z dy dz H4 q Q (r2.mono (e3.trans e4)) r4 o4 w4 (f.step (e.trans e4))
  | false => rw [if_neg Bool.false_ne_true] at w3 ⊢; exact f _ _ H3 w3 (.bl _) e o3
theorem d_chain {o o' : CmpOp} {r r' : R2} {op op' : DOp} (h : OpD X.K p r op) (h' : OpD X.K p r' op') (ho : OpR X (compareOp o) r) (ho' : OpR X (compareOp o') r') (ha : EE X p a ta) (hb : EE X p b tb) (hc : EE X p c tc)
    (hm : lastMarks [o, o'] [b, c] = false := by with_unfolding_all rfl) : EE X p (.Compare a [o, o'] [b, c] pos) (vChain op op' ta tb tc) := PE_imp (pe_chain ho ho' ha hb hc hm) (tChain_of h h')
theorem t_chain {o o' : CmpOp} {r r' : R2} {op op' : DOp} (h : OpD X.K p r op) (h' : OpD X.K p r' op') (ho : OpR X (compareOp o) r) (ho' : OpR X (compareOp o') r') (ha : EE X p a ta) (hb : EE X p b tb) (hc : EE X p c tc)
    (hm : lastMarks [o, o'] [b, c] = false := by with_unfolding_all rfl) : ET X p (.Compare a [o, o'] [b, c] pos) (vT (vChain op op' ta tb tc)) :=
  PT_imp (pt_chain ho ho' ha hb hc hm) fun σ H Q ⟨ρ, q, hr, h0, w, f⟩ => tChain_of h h' σ H _ ⟨ρ, _, hr, h0, w, f.of⟩

/-! ### argument lists, displays -/
def vNil : TDA := fun _ q => q []
def vCons (ta : TDE) (tr : TDA) : TDA := fun ρ q => ta ρ fun d => tr ρ fun ds => q (d :: ds)
theorem a_nil : EA X p [] vNil := PA_imp pa_nil fun σ H Q ⟨ρ, q, hr, ho, w, f⟩ => f [] [] H w .nil (Ext.refl _ _) ho
theorem a_cons {e : Expr} {es : List Expr} {te : TDE} {t : TDA} (ha : EE X p e te) (hr : EA X p es t) (hs : starEach (e :: es) X.env = (false, eval e X.env) :: starEach es X.env := by rfl) : EA X p (e :: es) (vCons te t) :=
  PA_imp (pa_cons ha hr hs) fun σ H Q ⟨ρ, q, hr, ho, w, f⟩ => by
    refine ⟨ρ, _, hr, ho, w, fun d v H1 w1 r1 e1 o1 => ?_⟩
    refine ⟨ρ, _, hr.mono e1, o1, w1, fun ds vs H2 w2 r2 e2 o2 => ?_⟩
    exact f (d :: ds) (v :: vs) H2 w2 (.cons (r1.mono e2) r2) (e1.trans e2) o2
def vTup (t : TDA) : TDE := fun ρ q => t ρ fun ds => ds.length ≤ sizeLine ∧ q (.tup ds)
def vLst (t : TDA) : TDE := fun ρ q => t ρ fun ds => ds.length ≤ sizeLine ∧ q (.lst ds)
theorem new_tup {K : PySem.W.Frag} {H : Hp} {xs : List V} {ds : List D} {a : Addr} (r : RepAll K p.av H xs ds) (n : H a = none) (ho : Pot p H) : Rep K p.av (upd H a (.tup xs)) (.ref a) (.tup ds) :=
  .tup (.inl ⟨.inl upd_same, ho.nin n⟩) (r.mono (Ext.new n))
theorem new_lst {K : PySem.W.Frag} {H : Hp} {xs : List V} {ds : List D} {a : Addr} (r : RepAll K p.av H xs ds) (n : H a = none) (hs : a ≠ sysModules) (ho : Pot p H) : Rep K p.av (upd H a (.lst xs)) (.ref a) (.lst ds) :=
  .lst upd_same (ho.nin n) hs (r.mono (Ext.new n))
theorem new_seq {K : PySem.W.Frag} {H : Hp} {xs : List V} {ds : List D} {a : Addr} (r : RepAll K p.av H xs ds) (n : H a = none) (ho : Pot p H) : Rep K p.av (upd H a (.lst xs)) (.ref a) (.seq ds) :=
  .seq upd_same (ho.nin n) (r.mono (Ext.new n))
theorem d_tup {es : List Expr} {t : TDA} {x1} (h : EA X p es t) : EE X p (.Tuple es x1 pos) (vTup t) := PE_imp (pe_tup h) fun σ H Q ⟨ρ, q, hr, ho, w, f⟩ => by
  refine ⟨ρ, _, hr, ho, w, fun ds vs H1 ⟨wl, w1⟩ r1 e1 o1 => ⟨by rw [r1.length]; exact wl, fun a n => ?_⟩⟩
  exact f _ _ _ w1 (new_tup r1 n o1) (e1.trans (Ext.new n)) (o1.new n)
/-- a list of written items, not at the place of sys.modules -/
def tLst2 (t : TA) : TE := fun σ H Q => t σ H fun xs H1 => xs.length ≤ sizeLine ∧ ∀ a, H1 a = none → a ≠ sysModules → Q (.ref a) (upd H1 a (.lst xs))
theorem pe_lst2 {es : List Expr} {t : TA} (h : PA X es t) : PE X (.List es pos) (tLst2 t) := by
  refine ⟨fun pins s σ H Q I hq => ?_⟩
  refine wpAny_List_spliced (thn (h.run pos pins s σ H _ I hq) fun us s1 ⟨xs, H1, I1, r, z, q⟩ => ⟨by rw [← r.length]; exact z, ?_⟩)
  have hf : H1 s1.heap.objs.size = none := I1.hok.fresh (Nat.le_refl _)
  refine ⟨.ref s1.heap.objs.size, upd H1 s1.heap.objs.size (.lst xs), I1.laid (t' := s1.toks) (fun b u e => Heap.get?_push_of_some _ e) (Nat.le_refl _) ?_, rfl, q _ hf (Nat.ne_of_gt I1.big)⟩
  exact ⟨z, us, 0, r, Heap.get?_push_size _ rfl⟩
theorem d_lst {es : List Expr} {t : TDA} (h : EA X p es t) : EE X p (.List es pos) (vLst t) := PE_imp (pe_lst2 h) fun σ H Q ⟨ρ, q, hr, ho, w, f⟩ => by
  refine ⟨ρ, _, hr, ho, w, fun ds vs H1 ⟨wl, w1⟩ r1 e1 o1 => ⟨by rw [r1.length]; exact wl, fun a n hs => ?_⟩⟩
  exact f _ _ _ w1 (new_lst r1 n hs o1) (e1.trans (Ext.new n)) (o1.new n)
theorem d_emp : EE X p (.Dict [] [] pos) (vC .emp) := PE_imp pe_dnewK fun σ H Q ⟨ρ, q, hr, ho, w, f⟩ => fun a n =>
  f _ _ _ w (.emp upd_same (ho.nin n)) (Ext.new n) (ho.new n)
end
end Dl

set_option Elab.async false
set_option linter.all false
set_option maxRecDepth 100000
set_option maxHeartbeats 4000000
namespace Dl
open PySem PySem.Spec PyProof.Rows L2
/-! types as values: == and != -/
def knownTy : List String := ["NoneType", "bool", "int", "str", "tuple", "list", "dict"]
theorem ty_meta : ∀ {n : String}, n ∈ knownTy → ∀ s' : Shared, s'.TypeIs (.type n) "type" := fun {n} h s' => by
  have h' : n = "NoneType" ∨ n = "bool" ∨ n = "int" ∨ n = "str" ∨ n = "tuple" ∨ n = "list" ∨ n = "dict" := by simpa [knownTy] using h
  rcases h' with rfl | rfl | rfl | rfl | rfl | rfl | rfl
  · exact PySem.TypeEq.meta_NoneType s'
  · exact PySem.TypeEq.meta_bool s'
  · exact PySem.TypeEq.meta_int s'
  · exact PySem.TypeEq.meta_str s'
  · exact PySem.TypeEq.meta_tuple s'
  · exact PySem.TypeEq.meta_list s'
  · exact PySem.TypeEq.meta_dict s'
theorem slot_type_ne : Slot "type" (cmpInfo .NotEq).2.1 "object.__ne__" :=
  .of (owner := "object") (n := "__ne__") (by rw [typeLookup_type, builtinLookup_eq_fast]; kernel_rfl) (by decide +kernel) (by decide +kernel) (by decide +kernel)
    (by first | exact .inl (by decide +kernel) | exact .inr (by decide +kernel)) (by rw [isSubtype_type]; kernel_rfl)
theorem slot_type_ne_refl : Slot "type" (cmpInfo .NotEq).2.2 "object.__ne__" :=
  .of (owner := "object") (n := "__ne__") (by rw [typeLookup_type, builtinLookup_eq_fast]; kernel_rfl) (by decide +kernel) (by decide +kernel) (by decide +kernel)
    (by first | exact .inl (by decide +kernel) | exact .inr (by decide +kernel)) (by rw [isSubtype_type]; kernel_rfl)
theorem slot_type_eqN : Slot "type" (Str.ofString "__eq__") "object.__eq__" := PySem.TypeEq.slot_type_eq
section
variable {prog : Program} {w : World} {A : Around} {E : Value → Shared → Prop} {s : Shared}
theorem call_ne_same {n : String} {Q : Value → Shared → Prop} {nm : Str} (hn : n ∈ knownTy) (sl : Slot "type" nm "object.__ne__") (h : Q (.bool false) s) : wpAny (model prog w) A (call (.builtin "object.__ne__") [.type n, .type n]) Q E s := by
  refine wpAny_call_entry sl (ty_meta hn s) PySem.F.cmpEntry_ne ?_ (PySem.F.cmpArgs_ne _ _)
  unfold Builtin.«object.__ne__»
  repeat (first
    | with_reducible refine wpAny_cRoomFor_byValue rfl ?_
    | (refine wpAny_bind (m := callSpecialIfBound? (.type n) (Str.ofString "__eq__") [.type n]) (wpAny_callSpecialIfBound?_slot (ty_meta hn s) slot_type_eqN
        (call_gives slot_type_eqN (ty_meta hn s) F.entry_object_eq (F.args_object_eq_2 _ _) (PySem.TypeEq.object_eq_same (a := .type n) (b := .type n) rfl (by simp)) ?_)))
    | (refine wpAny_bind (m := truthy (.bool _)) (wpAny_truthy_bool ?_))
    | wp_step)
  exact ⟨_, rfl, h⟩
theorem call_ne_other {a b : String} {Q : Value → Shared → Prop} {nm : Str} (hn : a ∈ knownTy) (ne : (Value.type a == Value.type b) = false) (sl : Slot "type" nm "object.__ne__") (h : Q .notImplemented s) : wpAny (model prog w) A (call (.builtin "object.__ne__") [.type a, .type b]) Q E s := by
  refine wpAny_call_entry sl (ty_meta hn s) PySem.F.cmpEntry_ne ?_ (PySem.F.cmpArgs_ne _ _)
  unfold Builtin.«object.__ne__»
  repeat (first
    | with_reducible refine wpAny_cRoomFor_byValue rfl ?_
    | (refine wpAny_bind (m := callSpecialIfBound? (.type a) (Str.ofString "__eq__") [.type b]) (wpAny_callSpecialIfBound?_slot (ty_meta hn s) slot_type_eqN
        (call_gives slot_type_eqN (ty_meta hn s) F.entry_object_eq (F.args_object_eq_2 _ _) (PySem.TypeEq.object_eq_other (a := .type a) (b := .type b) rfl ne) ?_)))
    | wp_step)
  exact wpAny_pure ⟨_, rfl, h⟩
theorem ne_type_same {n : String} {Q : Value → Shared → Prop} (hn : n ∈ knownTy) (h : Q (.bool false) s) : wpAny (model prog w) A (compareOp .NotEq (.type n) (.type n)) Q E s := by
  show wpAny _ A (richCompare .NotEq _ _) Q E s
  exact wpAny_richCompare_same (T := "type") (ty_meta hn s) (ty_meta hn s) slot_type_ne (call_ne_same hn slot_type_ne ⟨(by intro e; cases e), h⟩)
theorem ne_type_other {a b : String} {Q : Value → Shared → Prop} (ha : a ∈ knownTy) (hb : b ∈ knownTy) (ne : a ≠ b) (h : Q (.bool true) s) : wpAny (model prog w) A (compareOp .NotEq (.type a) (.type b)) Q E s := by
  have n1 : (Value.type a == Value.type b) = false := beq_eq_false_iff_ne.mpr fun z => ne (Value.type.inj z)
  have n2 : (Value.type b == Value.type a) = false := beq_eq_false_iff_ne.mpr fun z => ne (Value.type.inj z).symm
  show wpAny _ A (richCompare .NotEq _ _) Q E s
  have h1 := slot_type_ne
  have h2 := slot_type_ne_refl
  rcases hi : cmpInfo CmpOp.NotEq with ⟨sym, f, r⟩
  rw [hi] at h1 h2
  simp only [richCompare, hi, (ty_meta ha s).oneThing_none]
  try with_reducible refine wpAny_holding ?_
  refine wpAny_bind (wpAny_cRoomFor_or (.inl rfl) ?_)
  refine wpAny_bind (wpAny_typeOf (ty_meta ha s) (wpAny_bind (wpAny_typeOf (ty_meta hb s) ?_)))
  simp only [bne_self_eq_false, Bool.false_eq_true, if_false, pure_bind, Bool.not_false, if_true]
  refine wpAny_bind (m := tryCompare (Value.type a) _ (Value.type b)) (wpAny_tryCompare_declines (ty_meta ha s) h1 (call_ne_other ha n1 h1 ⟨rfl, ?_⟩))
  refine wpAny_bind (m := tryCompare (Value.type b) _ (Value.type a)) (wpAny_tryCompare_declines (ty_meta hb s) h2 (call_ne_other hb n2 h2 ⟨rfl, ?_⟩))
  refine wpAny_bind (wpAny_rule (wpAny_bind (wpAny_of_eq (isSame_plain rfl) (wpAny_pure ?_))))
  rw [n1]
  exact h
end
end Dl

set_option Elab.async false
set_option linter.all false
set_option maxRecDepth 100000
set_option maxHeartbeats 4000000
namespace Dl
open PySem PySem.Spec PyProof.Rows L2

/-! ## operators -/
section
variable {X : Cx} {p : Res}
theorem OpR_or {f : Value → Value → Sem Value} {r r' : R2} (h : OpR X f r) (h' : OpR X f r') : OpR X f (fun x y H Q => r x y H Q ∨ r' x y H Q) := by
  intro pins s σ H x y v u Q I rx ry w
  rcases w with w | w
  · exact h pins s σ H x y v u Q I rx ry w
  · exact h' pins s σ H x y v u Q I rx ry w
def b2z (b : Bool) : Int := if b = true then 1 else 0
/-- + -/
def addD : DOp
  | .int i, .int j, q => q (.int (i + j))
  | .bl b, .int j, q => q (.int (b2z b + j))
  | .str x, .str y, q => x.length + y.length ≤ sizeLine ∧ q (.str (x ++ y))
  | .tup xs, .tup ys, q => xs.length + ys.length ≤ sizeLine ∧ q (.tup (xs ++ ys))
  | .lst xs, .lst ys, q => xs.length + ys.length ≤ sizeLine ∧ q (.seq (xs ++ ys))
  | _, _, _ => False
def rBI (g : Int → Int → Int) : R2 := fun x y H Q => ∃ b j, x = .bl b ∧ y = .int j ∧ Q (.int (g (b2z b) j)) H
theorem op_addBI : OpR X (binaryOp .Add) (rBI fun i j => i + j) := by
  intro pins s σ H x y v u Q I rx ry ⟨b, j, e1, e2, q⟩
  subst e1 e2
  cases rx
  obtain ⟨t, rfl⟩ := ry
  exact PySem.IntBool.add_bool_int ⟨.int _, H, I.tok _, ⟨_, rfl⟩, q⟩
theorem op_subBI : OpR X (binaryOp .Sub) (rBI fun i j => i - j) := by
  intro pins s σ H x y v u Q I rx ry ⟨b, j, e1, e2, q⟩
  subst e1 e2
  cases rx
  obtain ⟨t, rfl⟩ := ry
  exact PySem.IntBool.sub_bool_int ⟨.int _, H, I.tok _, ⟨_, rfl⟩, q⟩
theorem op_subIB : OpR X (binaryOp .Sub) (fun x y H Q => ∃ i b, x = .int i ∧ y = .bl b ∧ Q (.int (i - b2z b)) H) := by
  intro pins s σ H x y v u Q I rx ry ⟨i, b, e1, e2, q⟩
  subst e1 e2
  cases ry
  obtain ⟨t, rfl⟩ := rx
  exact PySem.IntBool.sub_int_bool ⟨.int _, H, I.tok _, ⟨_, rfl⟩, q⟩
theorem opr_add : OpR X (binaryOp .Add) (fun x y H Q => rI0 (fun i j => .int (i + j)) x y H Q ∨ rBI (fun i j => i + j) x y H Q ∨ (∃ i j, x = .str i ∧ y = .str j ∧ i.length + j.length ≤ sizeLine ∧ Q (.str (i ++ j)) H) ∨ rCatA X.K x y H Q ∨ rCat x y H Q) :=
  OpR_or op_add (OpR_or op_addBI (OpR_or op_add_str (OpR_or op_catA op_cat)))
theorem opd_add : OpD X.K p (fun x y H Q => rI0 (fun i j => .int (i + j)) x y H Q ∨ rBI (fun i j => i + j) x y H Q ∨ (∃ i j, x = .str i ∧ y = .str j ∧ i.length + j.length ≤ sizeLine ∧ Q (.str (i ++ j)) H) ∨ rCatA X.K x y H Q ∨ rCat x y H Q) addD := by
  intro x y dx dy H q Q rx ry o w f
  unfold addD at w
  split at w
  · cases rx; cases ry
    exact .inl ⟨_, _, rfl, rfl, f _ _ H w (.int _) (Ext.refl _ _) o⟩
  · cases rx; cases ry
    exact .inr (.inl ⟨_, _, rfl, rfl, f _ _ H w (.int _) (Ext.refl _ _) o⟩)
  · cases rx; cases ry
    exact .inr (.inr (.inl ⟨_, _, rfl, rfl, w.1, f _ _ H w.2 (.str _) (Ext.refl _ _) o⟩))
  · rename_i xs ys
    cases rx with
    | tup hx ax =>
      cases ry with
      | tup hy ay =>
        refine .inr (.inr (.inr (.inl ⟨_, _, _, _, rfl, rfl, hx.sq, hy.sq, by rw [ax.length, ay.length]; exact w.1, fun e => ?_, fun _ e => ?_, fun _ _ a n => ?_⟩)))
        · have e' := ax.nil_iff.mp e
          subst e'
          exact f _ _ H w.2 (.tup hy ay) (Ext.refl _ _) o
        · have e' := ay.nil_iff.mp e
          subst e'
          rw [List.append_nil] at w
          exact f _ _ H w.2 (.tup hx ax) (Ext.refl _ _) o
        · exact f _ _ _ w.2 (new_tup (ax.append ay) n o) (Ext.new n) (o.new n)
  · cases rx with
    | lst hx n1 z1 ax =>
      cases ry with
      | lst hy n2 z2 ay =>
        exact .inr (.inr (.inr (.inr ⟨_, _, _, _, rfl, rfl, hx, hy, by rw [ax.length, ay.length]; exact w.1, fun a n => f _ _ _ w.2 (new_seq (ax.append ay) n o) (Ext.new n) (o.new n)⟩)))
  · exact w.elim
/-- -, *, //, %, ** -/
def subD : DOp
  | .int i, .int j, q => q (.int (i - j))
  | .bl b, .int j, q => q (.int (b2z b - j))
  | .int i, .bl b, q => q (.int (i - b2z b))
  | _, _, _ => False
theorem opr_sub : OpR X (binaryOp .Sub) (fun x y H Q => rI0 (fun i j => .int (i - j)) x y H Q ∨ rBI (fun i j => i - j) x y H Q ∨ (∃ i b, x = .int i ∧ y = .bl b ∧ Q (.int (i - b2z b)) H)) := OpR_or op_sub (OpR_or op_subBI op_subIB)
theorem opd_sub {K} : OpD K p (fun x y H Q => rI0 (fun i j => .int (i - j)) x y H Q ∨ rBI (fun i j => i - j) x y H Q ∨ (∃ i b, x = .int i ∧ y = .bl b ∧ Q (.int (i - b2z b)) H)) subD := by
  intro x y dx dy H q Q rx ry o w f
  unfold subD at w
  split at w
  · cases rx; cases ry
    exact .inl ⟨_, _, rfl, rfl, f _ _ H w (.int _) (Ext.refl _ _) o⟩
  · cases rx; cases ry
    exact .inr (.inl ⟨_, _, rfl, rfl, f _ _ H w (.int _) (Ext.refl _ _) o⟩)
  · cases rx; cases ry
    exact .inr (.inr ⟨_, _, rfl, rfl, f _ _ H w (.int _) (Ext.refl _ _) o⟩)
  · exact w.elim
/-- ints under a condition -/
def intD (C : Int → Int → Prop) (g : Int → Int → D) : DOp := fun dx dy q => ∃ i j, dx = .int i ∧ dy = .int j ∧ C i j ∧ q (g i j)
theorem opd_int {K} {C : Int → Int → Prop} {g : Int → Int → Int} : OpD K p (rI C fun i j => .int (g i j)) (intD C fun i j => .int (g i j)) := by
  rintro x y dx dy H q Q rx ry o ⟨i, j, rfl, rfl, c, w⟩ f
  cases rx; cases ry
  exact ⟨i, j, rfl, rfl, c, f _ _ H w (.int _) (Ext.refl _ _) o⟩
theorem opd_cmpI {K} {g : Int → Int → Bool} : OpD K p (rI0 fun i j => .bl (g i j)) (intD (fun _ _ => True) fun i j => .bl (g i j)) := by
  rintro x y dx dy H q Q rx ry o ⟨i, j, rfl, rfl, _, w⟩ f
  cases rx; cases ry
  exact ⟨i, j, rfl, rfl, f _ _ H w (.bl _) (Ext.refl _ _) o⟩

/-! ### == and != -/
/-- the answer of == where the layer has one: scalars, types, a tuple against the empty one -/
def eqD : D → D → Option Bool
  | .non, .non => some true | .non, .int _ => some false | .int _, .non => some false | .non, .bl _ => some false | .bl _, .non => some false | .non, .str _ => some false | .str _, .non => some false
  | .int i, .int j => some (i == j) | .bl a, .bl b => some (a == b) | .str x, .str y => some (x == y)
  | .int _, .str _ => some false | .str _, .int _ => some false | .bl _, .str _ => some false | .str _, .bl _ => some false
  | .bl a, .int j => some (b2z a == j)
  | .tup xs, .tup [] => some xs.isEmpty
  | .ty a, .ty b => if a ∈ knownTy ∧ b ∈ knownTy then some (decide (a = b)) else none
  | _, _ => none
def rEqT : R2 := fun x y H Q => ∃ a b, x = .ty a ∧ y = .ty b ∧ a ∈ knownTy ∧ b ∈ knownTy ∧ Q (.bl (decide (a = b))) H
theorem op_eqT : OpR X (compareOp .Eq) rEqT := by
  intro pins s σ H x y v u Q I rx ry ⟨a, b, e1, e2, ka, kb, q⟩
  subst e1 e2
  cases rx; cases ry
  by_cases e : a = b
  · subst e
    exact PySem.TypeEq.eq_type_same (ty_meta ka) (fin_bl I q (by simp))
  · exact PySem.TypeEq.eq_type_other (ty_meta ka) (ty_meta kb) (beq_eq_false_iff_ne.mpr fun z => e (Value.type.inj z)) (fin_bl I q (by simp [e]))
def rNeT : R2 := fun x y H Q => ∃ a b, x = .ty a ∧ y = .ty b ∧ a ∈ knownTy ∧ b ∈ knownTy ∧ Q (.bl (!decide (a = b))) H
theorem op_neT : OpR X (compareOp .NotEq) rNeT := by
  intro pins s σ H x y v u Q I rx ry ⟨a, b, e1, e2, ka, kb, q⟩
  subst e1 e2
  cases rx; cases ry
  by_cases e : a = b
  · subst e
    exact ne_type_same ka (fin_bl I q (by simp))
  · exact ne_type_other ka kb e (fin_bl I q (by simp [e]))
def rEqBI : R2 := fun x y H Q => ∃ b j, x = .bl b ∧ y = .int j ∧ Q (.bl (b2z b == j)) H
theorem op_eqBI : OpR X (compareOp .Eq) rEqBI := by
  intro pins s σ H x y v u Q I rx ry ⟨b, j, e1, e2, q⟩
  subst e1 e2
  cases rx
  obtain ⟨t, rfl⟩ := ry
  exact PySem.EqBoolInt.eq_bool_int (fin_bl I q (by unfold b2z; cases b <;> rfl))
/-- t == () -/
def rEqT0 (K : PySem.W.Frag) : R2 := fun x y H Q => ∃ a b xs, x = .ref a ∧ y = .ref b ∧ SqT K H a xs ∧ SqT K H b [] ∧ Q (.bl xs.isEmpty) H
theorem op_eqT0 (hu : X.A.units < cLine) : OpR X (compareOp .Eq) (rEqT0 X.K) := by
  intro pins s σ H x y v u Q I rx ry ⟨a, b, xs, e1, e2, h1, h2, q⟩
  subst e1 e2
  cases rx; cases ry
  obtain ⟨its, r1, p1, _⟩ := I.tuple h1
  obtain ⟨its2, r2, p2, _⟩ := I.tuple h2
  cases r2
  refine PySem.SeqAt.eq_tupleAt (e := fun _ => true) p1 p2 hu (fun j _ h => absurd h (by simp)) (fin_bl I q ?_)
  cases r1 with
  | nil => rfl
  | cons a b => simp
/-- == -/
def rEqAll (K : PySem.W.Frag) : R2 := fun x y H Q => rEq x y H Q ∨ rEqBI x y H Q ∨ rEqT x y H Q ∨ rEqT0 K x y H Q
theorem opr_eq (hu : X.A.units < cLine) : OpR X (compareOp .Eq) (rEqAll X.K) := OpR_or op_eq (OpR_or op_eqBI (OpR_or op_eqT (op_eqT0 hu)))
def eqDD : DOp := fun dx dy q => ∃ b, eqD dx dy = some b ∧ q (.bl b)
theorem opd_eq {K} : OpD K p (rEqAll K) eqDD := by
  rintro x y dx dy H q Q rx ry o ⟨b, e, w⟩ f
  have fin := f _ _ H w (.bl b) (Ext.refl _ _) o
  unfold eqD at e
  split at e <;> first
    | (cases rx; cases ry; cases e; exact .inl ⟨rfl, fin⟩)
    | (cases rx; cases ry; cases e; exact .inl ⟨rfl, by rw [dec_int]; exact fin⟩)
    | (cases rx; cases ry; cases e; exact .inl ⟨rfl, by rw [dec_bl]; exact fin⟩)
    | (cases rx; cases ry; cases e; exact .inl ⟨rfl, by rw [dec_str]; exact fin⟩)
    | (cases rx; cases ry; cases e; exact .inr (.inl ⟨_, _, rfl, rfl, fin⟩))
    | (cases rx; cases ry; split at e <;> first | (cases e; done) | (rename_i hk; cases e; exact .inr (.inr (.inl ⟨_, _, rfl, rfl, hk.1, hk.2, fin⟩))))
    | (cases e; done)
    | (cases e
       cases rx with
       | tup hx ax =>
         cases ry with
         | tup hy ay =>
           cases ay
           refine .inr (.inr (.inr ⟨_, _, _, rfl, rfl, hx.sq, hy.sq, ?_⟩))
           cases ax <;> exact fin)
/-- != of scalars, of types -/
def neD : D → D → Option Bool
  | .non, .non => some false | .non, .int _ => some true | .int _, .non => some true | .non, .bl _ => some true | .bl _, .non => some true | .non, .str _ => some true | .str _, .non => some true
  | .int i, .int j => some (!(i == j)) | .bl a, .bl b => some (!(a == b)) | .str x, .str y => some (!(x == y))
  | .int _, .str _ => some true | .str _, .int _ => some true | .bl _, .str _ => some true | .str _, .bl _ => some true
  | .ty a, .ty b => if a ∈ knownTy ∧ b ∈ knownTy then some (!decide (a = b)) else none
  | _, _ => none
def neDD : DOp := fun dx dy q => ∃ b, neD dx dy = some b ∧ q (.bl b)
def rNeAll : R2 := fun x y H Q => rNe x y H Q ∨ rNeT x y H Q
theorem opr_ne : OpR X (compareOp .NotEq) rNeAll := OpR_or op_ne op_neT
theorem opd_ne {K} : OpD K p rNeAll neDD := by
  rintro x y dx dy H q Q rx ry o ⟨b, e, w⟩ f
  have fin := f _ _ H w (.bl b) (Ext.refl _ _) o
  unfold neD at e
  split at e <;> first
    | (cases rx; cases ry; cases e; exact .inl ⟨rfl, fin⟩)
    | (cases rx; cases ry; cases e; exact .inl ⟨rfl, by rw [dec_int]; exact fin⟩)
    | (cases rx; cases ry; cases e; exact .inl ⟨rfl, by rw [dec_bl]; exact fin⟩)
    | (cases rx; cases ry; cases e; exact .inl ⟨rfl, by rw [dec_str]; exact fin⟩)
    | (cases rx; cases ry; split at e <;> first | (cases e; done) | (rename_i hk; cases e; exact .inr ⟨_, _, rfl, rfl, hk.1, hk.2, fin⟩))
    | (cases e; done)
end
end Dl

set_option Elab.async false
set_option linter.all false
set_option maxRecDepth 100000
set_option maxHeartbeats 4000000
namespace Dl
open PySem PySem.Spec PyProof.Rows L2

/-! ## in -/
def flatD : D → Bool
  | .non => true | .bl _ => true | .int _ => true | .str _ => true | _ => false
def dvOf : D → V
  | .non => .non | .bl b => .bl b | .int i => .int i | .str x => .str x | _ => .non
theorem flat_eq {K p H x d} (r : Rep K p H x d) (h : flatD d = true) : x = dvOf d ∧ flatV x = true := by
  cases r <;> first | exact ⟨rfl, rfl⟩ | cases h
theorem flat_all {K p H} : ∀ {xs : List V} {ds : List D}, RepAll K p H xs ds → ds.all flatD = true → xs = ds.map dvOf ∧ xs.all flatV = true
  | _, _, .nil, _ => ⟨rfl, rfl⟩
  | _, _, .cons r t, h => by
    rw [List.all_cons, Bool.and_eq_true] at h
    obtain ⟨e1, f1⟩ := flat_eq r h.1
    obtain ⟨e2, f2⟩ := flat_all t h.2
    subst e1 e2
    exact ⟨rfl, by rw [List.all_cons, f1, f2]; rfl⟩
/-- the items of a tuple or a list -/
def itemsD : D → Option (List D)
  | .tup ds => some ds | .lst ds => some ds | .seq ds => some ds | _ => none
theorem items_sq {K p H x d ds} (r : Rep K p H x d) (h : itemsD d = some ds) : ∃ a xs, x = .ref a ∧ (SqL K H a xs ∨ SqT K H a xs) ∧ RepAll K p H xs ds := by
  cases r with
  | tup h1 h2 => cases h; exact ⟨_, _, rfl, .inr h1.sq, h2⟩
  | lst h1 h2 h3 h4 => cases h; exact ⟨_, _, rfl, .inl (.of h1), h4⟩
  | seq h1 h2 h4 => cases h; exact ⟨_, _, rfl, .inl (.of h1), h4⟩
  | _ => cases h
/-- x in t, of flat things -/
def inD (neg : Bool) : DOp := fun dx dy q => ∃ ds, itemsD dy = some ds ∧ flatD dx = true ∧ ds.all flatD = true ∧ q (.bl (if neg then !inV (dvOf dx) (ds.map dvOf) else inV (dvOf dx) (ds.map dvOf)))
section
variable {X : Cx} {p : Res}
theorem opd_in {K} {neg : Bool} : OpD K p (rIn K neg) (inD neg) := by
  rintro x y dx dy H q Q rx ry o ⟨ds, e, f1, f2, w⟩ f
  obtain ⟨a, xs, rfl, sq, ra⟩ := items_sq ry e
  obtain ⟨rfl, g1⟩ := flat_eq rx f1
  obtain ⟨rfl, g2⟩ := flat_all ra f2
  exact ⟨a, _, rfl, sq, g1, g2, f _ _ H w (.bl _) (Ext.refl _ _) o⟩
/-- a sign in a text -/
def inS (neg : Bool) : DOp := fun dx dy q => ∃ (c : Nat) (z : Str), dx = .str ⟨#[c]⟩ ∧ dy = .str z ∧ q (.bl (if neg then !decide (c ∈ z.cps.toList) else decide (c ∈ z.cps.toList)))
theorem opd_inS {K} : OpD K p (fun x y H Q => ∃ (c : Nat) (z : Str), x = .str ⟨#[c]⟩ ∧ y = .str z ∧ Q (.bl (decide (c ∈ z.cps.toList))) H) (inS false) := by
  rintro x y dx dy H q Q rx ry o ⟨c, z, rfl, rfl, w⟩ f
  cases rx; cases ry
  exact ⟨c, z, rfl, rfl, f _ _ H w (.bl _) (Ext.refl _ _) o⟩

/-! ## subscripts, slices -/
variable {a b : Expr} {pos : Pos} {ta tb : TDE}
def ixD : DOp := fun dx dy q => ∃ i, dy = .int i ∧ ((∃ ds d, itemsD dx = some ds ∧ atI ds i = some d ∧ q d) ∨ ∃ z c, dx = .str z ∧ z.length ≤ sizeLine ∧ atI z.cps.toList i = some c ∧ q (.str ⟨#[c]⟩))
theorem RepAll.atI {K p H xs ds i d} (r : RepAll K p H xs ds) (h : atI ds i = some d) : ∃ x, L2.atI xs i = some x ∧ Rep K p H x d := by
  unfold L2.atI at h ⊢
  rw [r.length]
  cases e : ixN ds.length i with
  | none => rw [e] at h; cases h
  | some j => rw [e] at h; exact r.get h
theorem opd_ix : OpD X.K p (rIx X.K) ixD := by
  rintro x y dx dy H q Q rx ry o ⟨i, rfl, w⟩ f
  cases ry
  rcases w with ⟨ds, d, e, ha, w⟩ | ⟨z, c, rfl, hz, hc, w⟩
  · obtain ⟨a, xs, rfl, sq, ra⟩ := items_sq rx e
    obtain ⟨v, hv, rv⟩ := ra.atI ha
    rcases sq with sq | sq
    · exact .inl ⟨a, xs, i, v, rfl, rfl, sq, hv, f _ _ H w rv (Ext.refl _ _) o⟩
    · exact .inr (.inl ⟨a, xs, i, v, rfl, rfl, sq, hv, f _ _ H w rv (Ext.refl _ _) o⟩)
  · cases rx
    exact .inr (.inr ⟨z, i, c, rfl, rfl, hz, hc, f _ _ H w (.str _) (Ext.refl _ _) o⟩)
theorem d_ix (ha : EE X p a ta) (hb : EE X p b tb) (hs : PlainIx b := by intro _ _; rfl) : EE X p (.Subscript a b pos) (vOp ixD ta tb) := PE_imp (pe_ix ix_seq ha hb hs) (tOp_of opd_ix)

abbrev TDO := DE → (Option Int → Prop) → Prop
def tDO (K : PySem.W.Frag) (p : Res) (t : TDO) : TO := fun σ H Q => ∃ ρ q, REnv K p.av H σ ρ ∧ Pot p H ∧ t ρ q ∧ ∀ o H', q o → Ext p.p H H' → Pot p H' → Q o H'
def vNoPart : TDO := fun _ q => q none
def vPart (t : TDE) : TDO := fun ρ q => t ρ fun d => ∃ i, d = .int i ∧ q (some i)
theorem o_none : PO X none (tDO X.K p vNoPart) := ⟨fun pins s σ H Q I ⟨ρ, q, hr, ho, w, f⟩ => po_none.run pins s σ H Q I (f none H w (Ext.refl _ _) ho)⟩
theorem o_some {e : Expr} {t : TDE} (h : EE X p e t) : PO X (some e) (tDO X.K p (vPart t)) := ⟨fun pins s σ H Q I ⟨ρ, q, hr, ho, w, f⟩ => (po_some h).run pins s σ H Q I ⟨ρ, _, hr, ho, w, by
  rintro d v H' ⟨i, rfl, w1⟩ r e o
  cases r
  exact ⟨i, rfl, f _ H' w1 e o⟩⟩⟩
def cutD (xs : List D) (lo hi : Option Int) : List D := (xs.drop (HT.sIx xs.length 0 lo)).take (HT.sIx xs.length xs.length hi - HT.sIx xs.length 0 lo)
theorem RepAll.cut {K p H xs ds} (r : RepAll K p H xs ds) (lo hi : Option Int) : RepAll K p H (cutV xs lo hi) (cutD ds lo hi) := by
  unfold cutV cutD
  rw [r.length]
  exact (r.drop _).take _
/-- x[lo:hi] -/
def sliceD (dx : D) (lo hi : Option Int) (q : D → Prop) : Prop := match dx with
  | .tup ds => q (.tup (cutD ds lo hi))
  | .lst ds => q (.seq (cutD ds lo hi))
  | .str z => z.length ≤ sizeLine ∧ q (.str (cutS z lo hi))
  | _ => False
def vSl (t : TDE) (tl th : TDO) : TDE := fun ρ q => t ρ fun dx => tl ρ fun lo => th ρ fun hi => sliceD dx lo hi q
def rSlAny (K : PySem.W.Frag) : V → Option Int → Option Int → Hp → VK → Prop := fun x lo hi H Q => rSlA K x lo hi H Q ∨ rSlL K x lo hi H Q ∨ rSlS x lo hi H Q
theorem slr_any : SlR X (rSlAny X.K) := SlR.or sl_tupA (SlR.or sl_list sl_str)
theorem slice_ok {K x dx lo hi H} {q : D → Prop} {Q : VK} (rx : Rep K p.av H x dx) (o : Pot p H) (w : sliceD dx lo hi q) (f : Fin K p H q Q) : rSlAny K x lo hi H Q := by
  unfold sliceD at w
  split at w
  · rename_i ds
    cases rx with
    | tup h ra =>
      refine .inl ⟨_, _, rfl, h.sq, fun e => ?_, fun _ a n => ?_⟩
      · refine f _ _ H w ?_ (Ext.refl _ _) o
        have e2 : cutD ds lo hi = ds := by
          unfold cutD
          rw [ra.length] at e
          rw [e.1, e.2]
          simp
        rw [e2]
        exact .tup h ra
      · exact f _ _ _ w (new_tup (ra.cut lo hi) n o) (Ext.new n) (o.new n)
  · cases rx with
    | lst h n1 z1 ra => exact .inr (.inl ⟨_, _, rfl, .of h, fun a n => f _ _ _ w (new_seq (ra.cut lo hi) n o) (Ext.new n) (o.new n)⟩)
  · cases rx
    exact .inr (.inr ⟨_, rfl, w.1, f _ _ H w.2 (.str _) (Ext.refl _ _) o⟩)
  · exact w.elim
theorem d_slice {e : Expr} {lo hi : Option Expr} {t : TDE} {tl th : TDO} {p2 : Pos} (he : EE X p e t) (hl : PO X lo (tDO X.K p tl)) (hu : PO X hi (tDO X.K p th)) : EE X p (.Subscript e (.Slice lo hi none p2) pos) (vSl t tl th) :=
  PE_imp (pe_slice slr_any he hl hu) fun σ H Q ⟨ρ, q, hr, ho, w, f⟩ => by
    refine ⟨ρ, _, hr, ho, w, fun dx x H1 w1 r1 e1 o1 => ?_⟩
    refine ⟨ρ, _, hr.mono e1, o1, w1, fun l H2 w2 e2 o2 => ?_⟩
    refine ⟨ρ, _, hr.mono (e1.trans e2), o2, w2, fun u H3 w3 e3 o3 => ?_⟩
    exact slice_ok ((r1.mono e2).mono e3) o3 w3 (f.step ((e1.trans e2).trans e3))

/-! ### t[::-1] -/
section
variable {prog : Program} {w : World} {A : Around} {E : Value → Shared → Prop} {s : Shared}
theorem filterMap_congr' {α β : Type} {f g : α → Option β} : ∀ {l : List α}, (∀ m ∈ l, f m = g m) → l.filterMap f = l.filterMap g
  | [], _ => rfl
  | a :: l, h => by
    rw [List.filterMap_cons, List.filterMap_cons, h a List.mem_cons_self, filterMap_congr' fun m hm => h m (List.mem_cons_of_mem _ hm)]
theorem adjust_back (n : Nat) : Builtin.Slice.sliceAdjust none none (-1) (n : Int) = ((n : Int) - 1, -1) := by
  unfold Builtin.Slice.sliceAdjust
  simp
theorem places_back (n : Nat) : Builtin.Slice.slicePlaces ((n : Int) - 1) (-1) (-1) = n := by
  unfold Builtin.Slice.slicePlaces
  simp
  omega
theorem pick_back (xs : Array Value) : ((List.range xs.size).filterMap fun (m : Nat) => xs[(((xs.size : Int) - 1) + (m : Int) * (-1)).toNat]?).toArray = xs.toList.reverse.toArray := by
  congr 1
  have h := PySem.W.krv_all xs
  have e : ((List.range xs.size).filterMap fun (m : Nat) => xs[(((xs.size : Int) - 1) + (m : Int) * (-1)).toNat]?) = ((List.range xs.size).map fun k => xs.size - 1 - k).filterMap (xs[·]?) := by
    rw [List.filterMap_map]
    apply filterMap_congr'
    intro m hm
    have hm' := List.mem_range.mp hm
    have : (((xs.size : Int) - 1) + (m : Int) * (-1)).toNat = xs.size - 1 - m := by omega
    rw [this]
    rfl
  rw [e, PySem.W.krv_range, List.filterMap_reverse, h]
theorem getItem_tuple_back {t sl : Addr} {items : Array Value} {vs : Value} {Q : Value → Shared → Prop} (ht : IsTup s.heap t items) (hs : s.heap.IsSliceOf sl .none .none vs) (ps : IsPart vs (some (-1)))
    (h : Q (.ref s.heap.objs.size) { s with heap := s.heap.push { cls := .type "tuple", data := .seq items.toList.reverse.toArray } })
    (hsz : items.size ≤ sizeLine) : wpAny (model prog w) A (getItem (.ref t) (.ref sl)) Q E s := by
  have htake : sizeOk (.seq items.toList.reverse.toArray) := by
    show items.toList.reverse.toArray.size ≤ sizeLine
    rw [List.size_toArray, List.length_reverse, Array.length_toList]
    exact hsz
  obtain ⟨os, hos, hcs, hds⟩ := id hs
  have hTs : s.TypeIs (.ref sl) "slice" := ⟨os, hos, hcs⟩
  unfold getItem
  try with_reducible refine wpAny_holding ?_
  first | refine wpAny_bind (wpAny_pure ?_) | skip
  refine wpAny_bind (wpAny_sequenceKey ht.typeIs (by decide) ?_)
  refine wpAny_bind (wpAny_callSpecial?_slot (name := Str.ofString "__getitem__") ht.typeIs PyProof.Rows.slot_tuple_getitem
    (wpAny_call_entry PyProof.Rows.slot_tuple_getitem ht.typeIs entry_tuple_getitem ?_ (args_tuple_getitem _ _)))
  show wpAny _ _ (Builtin.Tuple.tupleItemsOf (.ref t) >>= _) _ _ s
  refine wpAny_bind (tupleItemsOf_ ht ?_)
  refine wpAny_bind (wpAny_typeOf hTs ?_)
  rw [if_pos (by decide)]
  have happ : ∀ {Q' : Int × Int × Nat → Shared → Prop}, Q' ((items.size : Int) - 1, -1, items.size) s → wpAny (model prog w) A.in1 (Builtin.Slice.sliceApplied (.ref sl) (pure (items.size : Int))) Q' E s := by
    intro Q' hq
    unfold Builtin.Slice.sliceApplied Builtin.Slice.sliceFields
    refine wpAny_bind (wpAny_bind (wpAny_field hos hds (x := .none) rfl (wpAny_bind (wpAny_field hos hds (x := .none) rfl (wpAny_bind (wpAny_field hos hds (x := vs) rfl (wpAny_pure ?_)))))))
    refine wpAny_bind (HT.slicePart_ ps ?_)
    show wpAny _ _ (if ((-1 : Int) == 0) = true then _ else _) _ _ s
    rw [if_neg (by decide)]
    refine wpAny_bind (slicePart_none (wpAny_bind (slicePart_none (wpAny_bind (wpAny_pure ?_)))))
    show wpAny _ _ (match Builtin.Slice.sliceAdjust none none (-1) (items.size : Int) with | (lo, hi) => pure (lo, (-1 : Int), Builtin.Slice.slicePlaces lo hi (-1))) _ _ s
    rw [adjust_back]
    show wpAny _ _ (pure ((items.size : Int) - 1, (-1 : Int), Builtin.Slice.slicePlaces ((items.size : Int) - 1) (-1) (-1))) _ _ s
    rw [places_back]
    exact wpAny_pure hq
  refine wpAny_bind (happ ?_)
  have hno : ¬ (((items.size : Int) - 1 == 0 && (-1 : Int) == 1 && items.size == items.size) = true) := by
    intro q
    rw [Bool.and_eq_true, Bool.and_eq_true] at q
    exact absurd q.1.2 (by decide)
  show wpAny _ _ (if ((items.size : Int) - 1 == 0 && (-1 : Int) == 1 && items.size == items.size) = true then _ else _) _ _ s
  rw [if_neg hno, pick_back]
  first
    | exact wpAny_bind (m := Builtin.Tuple.tupleExact _) (wpAny_newObj_type (wpAny_pure ⟨_, rfl, wpAny_pure h⟩) htake)
    | exact wpAny_bind (m := Builtin.Tuple.tupleExact _) (wpAny_newObj_type (wpAny_bind (wpAny_pure (wpAny_pure ⟨_, rfl, wpAny_pure h⟩))) htake)
    | exact wpAny_bind (wpAny_bind (m := Builtin.Tuple.tupleExact _) (wpAny_newObj_type (wpAny_pure (wpAny_pure ⟨_, rfl, wpAny_pure h⟩)) htake))
    | exact wpAny_bind (wpAny_bind (m := Builtin.Tuple.tupleExact _) (wpAny_newObj_type (wpAny_pure ⟨_, rfl, wpAny_pure h⟩) htake))
end
def vRevT (t : TDE) : TDE := fun ρ q => t ρ fun d => ∃ ds, d = .tup ds ∧ q (.tup ds.reverse)
theorem d_revT {e : Expr} {t : TDE} {k : Nat} {p1 p2 p3 : Pos} (he : EE X p e t) : EE X p (.Subscript e (.Slice none none (some (.UnaryOp .USub (.Constant (.int 1) k p1) p2)) p3) pos) (vRevT t) := by
  refine ⟨fun pins s σ H Q I ⟨ρ, q, hr, ho, w, f⟩ => ?_⟩
  refine Subscript_ (thn (he.run pins s σ H _ I ⟨ρ, _, hr, ho, w, fun d v H' wd rd ed od => (show ∃ ds x, D.tup ds = D.tup ds ∧ v = x ∧ q (.tup ds.reverse) ∧ Rep X.K p.av H' x (.tup ds) ∧ Ext p.p H H' ∧ Pot p H' from by obtain ⟨ds, rfl, w2⟩ := wd; exact ⟨ds, v, rfl, rfl, w2, rd, ed, od⟩)⟩) fun v s1 ⟨x, H1, I1, r1, q1⟩ => ?_)
  obtain ⟨ds, _, _, rfl, w2, rd, ed, od⟩ := q1
  cases rd with
  | @tup ad xs _ hx ra =>
  cases r1
  have hst : PO X (some (.UnaryOp .USub (.Constant (.int 1) k p1) p2)) (tPart (tUn (rU fun i => .int (-i)) (tC (.int 1)))) := po_some (pe_un un_neg pe_int)
  refine wpAny_Slice (thn (po_none.run pins s1 σ H1 (fun o H2 => o = none ∧ H2 = H1) I1 ⟨rfl, rfl⟩) fun vl s2 ⟨l, H2, I2, pl, el, e2⟩ => ?_)
  subst el e2
  refine thn (po_none.run pins s2 σ H2 (fun o H3 => o = none ∧ H3 = H2) I2 ⟨rfl, rfl⟩) fun vu s3 ⟨u, H3, I3, pu, eu, e3⟩ => ?_
  subst eu e3
  refine thn (hst.run pins s3 σ H3 (fun o H4 => o = some (-1) ∧ H4 = H3) I3 ⟨1, rfl, -1, rfl, rfl, rfl⟩) fun vs s4 ⟨o, H4, I4, ps, eo, e4⟩ => ?_
  subst eo e4
  cases pl
  cases pu
  have I5 : Inv X pins σ H4 { s4 with heap := s4.heap.push { cls := .type "slice", data := .fields #[.none, .none, vs] } } := I4.kept (t' := s4.toks) fun b ob q => Heap.get?_push_of_some _ q
  obtain ⟨its, r, ht, hz⟩ := I5.tuple hx.sq
  have hlen := r.length
  show wpAny (model X.prog X.w) X.A (subscriptTail e (.Slice none none (some (.UnaryOp .USub (.Constant (.int 1) k p1) p2)) p3) (.ref ad) (.ref s4.heap.objs.size)) (EP X pins σ Q) X.xe { s4 with heap := s4.heap.push { cls := .type "slice", data := .fields #[.none, .none, vs] } }
  refine tail_any (ops := [.ref ad, .ref s4.heap.objs.size]) ht.typeIs PyProof.Rows.slot_tuple_getitem.lookup ?_ (by with_unfolding_all rfl)
  have hn : H4 (s4.heap.push { cls := .type "slice", data := .fields #[.none, .none, vs] }).objs.size = none := I5.hok.fresh (Nat.le_refl _)
  refine getItem_tuple_back ht (Heap.IsSliceOf.new _ .none .none vs) ps ?_ (by rw [List.size_toArray]; omega)
  refine ⟨.ref _, _, I5.laid (t' := s4.toks) (o := .tup xs.reverse) (fun b ob q => Heap.get?_push_of_some _ q) (Nat.le_refl _) ?_, rfl, f _ _ _ w2 (new_tup ra.reverse hn od) (ed.trans (Ext.new hn)) (od.new hn)⟩
  exact ⟨by rw [List.length_reverse]; exact hz, its.reverse, r.reverse, _, Heap.get?_push_size _ rfl, rfl, 0, by simp⟩
end
end Dl

set_option Elab.async false
set_option linter.all false
set_option maxRecDepth 100000
set_option maxHeartbeats 4000000
namespace Dl
open PySem PySem.Spec PyProof.Rows L2
/-! ## data that can be shown -/
mutual
def D.py : D → PyData
  | .non => .none | .bl b => .bool b | .int i => .int i | .str x => .str x | .tup xs => .tuple (D.pys xs) | .lst xs => .list (D.pys xs) | .emp => .dict []
  | .ptr _ => .none | .seq _ => .none | .ty _ => .none
def D.pys : List D → List PyData
  | [] => []
  | x :: xs => D.py x :: D.pys xs
end
mutual
/-- no objects but tuples, lists, empty dicts; ints and signs of a size that is shown in few signs -/
def D.plain : D → Bool
  | .non => true | .bl _ => true | .int i => decide (i.natAbs < 10 ^ 12) | .str x => x.cps.toList.all (fun c => decide (c < 128)) | .tup xs => D.plains xs | .lst xs => D.plains xs | .emp => true
  | .ptr _ => false | .seq _ => false | .ty _ => false
def D.plains : List D → Bool
  | [] => true
  | x :: xs => D.plain x && D.plains xs
end
mutual
/-- how much there is -/
def D.sz : D → Nat
  | .str x => x.length + 1
  | .tup xs => D.szs xs + 1
  | .lst xs => D.szs xs + 1
  | _ => 1
def D.szs : List D → Nat
  | [] => 0
  | x :: xs => D.sz x + 1 + D.szs xs
end
mutual
def D.dp : D → Nat
  | .tup xs => D.dps xs + 1
  | .lst xs => D.dps xs + 1
  | .emp => 1
  | _ => 0
def D.dps : List D → Nat
  | [] => 0
  | x :: xs => max (D.dp x) (D.dps xs)
end
mutual
theorem py_depth : ∀ d : D, d.plain = true → d.py.depth = d.dp
  | .non, _ => by simp only [D.py, PyData.depth, D.dp]
  | .bl _, _ => by simp only [D.py, PyData.depth, D.dp]
  | .int _, _ => by simp only [D.py, PyData.depth, D.dp]
  | .str _, _ => by simp only [D.py, PyData.depth, D.dp]
  | .emp, _ => by simp only [D.py, PyData.depth, PyData.depthKv, D.dp]
  | .tup xs, h => by simp only [D.py, PyData.depth, D.dp]; rw [pys_depth xs (by simpa only [D.plain] using h)]
  | .lst xs, h => by simp only [D.py, PyData.depth, D.dp]; rw [pys_depth xs (by simpa only [D.plain] using h)]
  | .ptr _, h => by simp only [D.plain] at h; cases h
  | .seq _, h => by simp only [D.plain] at h; cases h
  | .ty _, h => by simp only [D.plain] at h; cases h
theorem pys_depth : ∀ ds : List D, D.plains ds = true → PyData.depthAll (D.pys ds) = D.dps ds
  | [], _ => by simp only [D.pys, PyData.depthAll, D.dps]
  | d :: ds, h => by
    simp only [D.plains, Bool.and_eq_true] at h
    simp only [D.pys, PyData.depthAll, D.dps]
    rw [py_depth d h.1, pys_depth ds h.2]
end
mutual
theorem py_showable : ∀ d : D, d.plain = true → d.py.showable = true
  | .non, _ => by simp only [D.py, PyData.showable]
  | .bl _, _ => by simp only [D.py, PyData.showable]
  | .int i, h => by
    simp only [D.plain, decide_eq_true_eq] at h
    simp only [D.py, PyData.showable, decide_eq_true_eq]
    exact log2_small (Nat.lt_of_lt_of_le h (by decide))
  | .str _, _ => by simp only [D.py, PyData.showable]
  | .emp, _ => by simp only [D.py, PyData.showable, PyData.showableKv]
  | .tup xs, h => by simp only [D.py, PyData.showable]; exact pys_showable xs (by simpa only [D.plain] using h)
  | .lst xs, h => by simp only [D.py, PyData.showable]; exact pys_showable xs (by simpa only [D.plain] using h)
  | .ptr _, h => by simp only [D.plain] at h; cases h
  | .seq _, h => by simp only [D.plain] at h; cases h
  | .ty _, h => by simp only [D.plain] at h; cases h
theorem pys_showable : ∀ ds : List D, D.plains ds = true → PyData.showableAll (D.pys ds) = true
  | [], _ => by simp only [D.pys, PyData.showableAll]
  | d :: ds, h => by
    simp only [D.plains, Bool.and_eq_true] at h
    simp only [D.pys, PyData.showableAll, Bool.and_eq_true]
    exact ⟨py_showable d h.1, pys_showable ds h.2⟩
end
theorem repr_len (x : Str) (h : x.cps.toList.all (fun c => decide (c < 128)) = true) : (reprText x).length ≤ 10 * x.length + 4 :=
  Nat.le_trans (StrLaws.reprText_len x fun c hc => Nat.lt_of_lt_of_le (of_decide_eq_true (List.all_eq_true.mp h c hc)) (by decide)) (by omega)
mutual
theorem py_shown : ∀ d : D, d.plain = true → d.py.shown.length ≤ 14 * d.sz
  | .non, _ => by simp only [D.py, PyData.shown_none, D.sz]; decide +kernel
  | .bl b, _ => by simp only [D.py, PyData.shown_bool, D.sz]; cases b <;> decide +kernel
  | .int i, h => by
    simp only [D.plain, decide_eq_true_eq] at h
    have := PyData.shown_int_le h
    simp only [D.py, D.sz]
    omega
  | .str x, h => by
    simp only [D.plain] at h
    have := repr_len x h
    simp only [D.py, PyData.shown_str, D.sz]
    omega
  | .emp, _ => by simp only [D.py, D.sz]; decide +kernel
  | .tup xs, h => by
    have ih := pys_shown xs (by simpa only [D.plain] using h)
    have := tupleText_len_le (PyData.shownAll (D.pys xs))
    simp only [D.py, PyData.shown, D.sz]
    omega
  | .lst xs, h => by
    have ih := pys_shown xs (by simpa only [D.plain] using h)
    have := listText_len_le (PyData.shownAll (D.pys xs))
    simp only [D.py, PyData.shown, D.sz]
    omega
  | .ptr _, h => by simp only [D.plain] at h; cases h
  | .seq _, h => by simp only [D.plain] at h; cases h
  | .ty _, h => by simp only [D.plain] at h; cases h
theorem pys_shown : ∀ ds : List D, D.plains ds = true → ((PyData.shownAll (D.pys ds)).map (·.length)).sum + 2 * (PyData.shownAll (D.pys ds)).length ≤ 14 * D.szs ds
  | [], _ => by simp [D.pys, PyData.shownAll_nil, D.szs]
  | d :: ds, h => by
    simp only [D.plains, Bool.and_eq_true] at h
    have h1 := py_shown d h.1
    have h2 := pys_shown ds h.2
    simp only [D.pys, PyData.shownAll_cons, List.map_cons, List.sum_cons, List.length_cons, D.szs]
    omega
end
section
variable {X : Cx} {pins : List (Addr × Obj)} {σ : L2.St} {H : Hp} {s : Shared} {p : List Addr}
mutual
theorem Rep.reads (I : Inv X pins σ H s) : ∀ (d : D) (v : V) (u : Value), d.plain = true → Rep X.K p H v d → RelV v u → ∃ as, Reads s.heap u d.py as ∧ sysModules ∉ as
  | .non, _, _, _, h, r => by cases h; cases r; exact ⟨_, Reads.none, by simp⟩
  | .bl b, _, _, _, h, r => by cases h; cases r; exact ⟨_, Reads.bool b, by simp⟩
  | .int i, _, _, _, h, r => by cases h; obtain ⟨t, rfl⟩ := r; exact ⟨_, Reads.int i t, by simp⟩
  | .str x, _, _, _, h, r => by cases h; obtain ⟨t, rfl⟩ := r; exact ⟨_, Reads.str x t, by simp⟩
  | .tup ds, _, _, g, h, r => by
    simp only [D.plain] at g
    cases h with
    | tup hs ha =>
      cases r
      obtain ⟨its, rv, ⟨o, ho, hc, n, hd⟩, _⟩ := I.tuple hs.sq
      obtain ⟨as, hr, hn⟩ := Rep.readsAll I ds _ its g ha rv
      exact ⟨_, by simp only [D.py]; exact Reads.tuple ho hc hd hr, hn⟩
  | .lst ds, _, _, g, h, r => by
    simp only [D.plain] at g
    cases h with
    | lst hs hp hz ha =>
      cases r
      obtain ⟨its, rv, ⟨o, n, ho, hc, _, hd⟩, _⟩ := I.list (SqL.of (K := X.K) hs)
      obtain ⟨as, hr, hn⟩ := Rep.readsAll I ds _ its g ha rv
      refine ⟨_, by simp only [D.py]; exact Reads.list ho hc hd hr, ?_⟩
      simp only [List.mem_cons, not_or]
      exact ⟨fun e => hz e.symm, hn⟩
  | .emp, _, _, _, h, r => by
    cases h with
    | emp hs hp =>
      cases r
      obtain ⟨_, hS, vs, rk, o, es, ep, ho, hx, hd, _, he, _⟩ := dk_of I.hok hs
      cases rk
      have he' : es.toList = [] := by
        cases hq : es.toList with
        | nil => rfl
        | cons a b => rw [hq] at he; cases he
      refine ⟨_, by simp only [D.py]; exact Reads.dict (as := []) (bs := []) ho hx.1 hd (by rw [he']; exact .nil) (by rw [he']; exact .nil), ?_⟩
      have hS' := beq_eq_false_iff_ne.mp hS
      simp
      exact fun e => hS' e.symm
  | .ptr _, _, _, g, _, _ => by simp only [D.plain] at g; cases g
  | .seq _, _, _, g, _, _ => by simp only [D.plain] at g; cases g
  | .ty _, _, _, g, _, _ => by simp only [D.plain] at g; cases g
theorem Rep.readsAll (I : Inv X pins σ H s) : ∀ (ds : List D) (vs : List V) (us : List Value), D.plains ds = true → RepAll X.K p H vs ds → Vals vs us → ∃ as, ReadsAll s.heap us (D.pys ds) as ∧ sysModules ∉ as
  | [], _, _, _, h, r => by
    cases h
    cases r
    exact ⟨_, by simp only [D.pys]; exact ReadsAll.nil, by simp⟩
  | d :: ds, _, _, g, h, r => by
    simp only [D.plains, Bool.and_eq_true] at g
    cases h with
    | cons h1 h2 =>
      cases r with
      | cons r1 r2 =>
        obtain ⟨as, q1, n1⟩ := Rep.reads I d _ _ g.1 h1 r1
        obtain ⟨bs, q2, n2⟩ := Rep.readsAll I ds _ _ g.2 h2 r2
        exact ⟨_, by simp only [D.pys]; exact ReadsAll.cons q1 q2, by simp [n1, n2]⟩
end
end

/-! ## calls of built-ins -/
section
variable {X : Cx} {p : Res} {pos : Pos}
abbrev DCall := List D → (D → Prop) → Prop
def CallD (K : PySem.W.Frag) (p : Res) (r : List V → Hp → VK → Prop) (op : DCall) : Prop := ∀ xs ds H q Q, RepAll K p.av H xs ds → Pot p H → op ds q → Fin K p H q Q → r xs H Q
def vCall (op : DCall) (ta : TDA) : TDE := fun ρ q => ta ρ fun ds => op ds q
theorem d_callB {x : Str} {p0 : Pos} {e : Expr} {es : List Expr} {ta : TDA} {id : String} {r : List V → Hp → VK → Prop} {op : DCall} (h : CallD X.K p r op) (hc : CallR X (.builtin id) r) (hm : X.mg x = none) (hv : bootBuiltins x = some (.builtin id)) (ha : EA X p (e :: es) ta)
    (hg : Gl X x := by rfl) (hn : x ≠ "__name__" := by decide) (hdb : (x == ("__debug__" : Str)) = false := by decide)
    (he : starEach (e :: es) X.env = (false, eval e X.env) :: starEach es X.env := by rfl) (hpl : (backTo pos (starEach es X.env)).any (·.1) = false := by rfl) : EE X p (.Call (.Name x p0) (e :: es) [] pos) (vCall op ta) :=
  PE_imp (pe_callB hc hg hm hv ha hn hdb he hpl) fun σ H Q ⟨ρ, q, hr, ho, w, f⟩ => ⟨ρ, _, hr, ho, w, fun ds vs H1 w1 r1 e1 o1 => h vs ds H1 q Q r1 o1 w1 (f.step e1)⟩
theorem d_callTy {x : Str} {p0 : Pos} {e : Expr} {es : List Expr} {ta : TDA} {T : String} {r : List V → Hp → VK → Prop} {op : DCall} (h : CallD X.K p r op) (hc : CallR X (.type T) r) (hm : X.mg x = none) (hv : bootBuiltins x = some (.type T)) (ha : EA X p (e :: es) ta)
    (hg : Gl X x := by rfl) (hn : x ≠ "__name__" := by decide) (hdb : (x == ("__debug__" : Str)) = false := by decide)
    (he : starEach (e :: es) X.env = (false, eval e X.env) :: starEach es X.env := by rfl) (hpl : (backTo pos (starEach es X.env)).any (·.1) = false := by rfl) : EE X p (.Call (.Name x p0) (e :: es) [] pos) (vCall op ta) :=
  PE_imp (pe_callTy hc hg hm hv ha hn hdb he hpl) fun σ H Q ⟨ρ, q, hr, ho, w, f⟩ => ⟨ρ, _, hr, ho, w, fun ds vs H1 w1 r1 e1 o1 => h vs ds H1 q Q r1 o1 w1 (f.step e1)⟩
theorem RepAll.one {K p H xs d} (r : RepAll K p H xs [d]) : ∃ x, xs = [x] ∧ Rep K p H x d := by
  cases r with
  | cons r t => cases t; exact ⟨_, rfl, r⟩
theorem RepAll.two {K p H xs d e} (r : RepAll K p H xs [d, e]) : ∃ x y, xs = [x, y] ∧ Rep K p H x d ∧ Rep K p H y e := by
  cases r with
  | cons r t =>
    obtain ⟨y, rfl, r2⟩ := t.one
    exact ⟨_, _, rfl, r, r2⟩
/-- a built-in type, by its name -/
theorem d_ty {x : Str} {n : String} {p0 : Pos} (hm : X.mg x = none) (hv : bootBuiltins x = some (.type n)) (hg : Gl X x := by rfl) (hn : x ≠ "__name__" := by decide) (hd : (x == ("__debug__" : Str)) = false := by decide) : EE X p (.Name x p0) (vC (.ty n)) :=
  d_of_c (v := .ty n) (pe_bltn hg hm hv rfl hn hd) fun _ => .ty n
/-! ### len -/
def lenD : DCall := fun ds q => ∃ d, ds = [d] ∧ ((∃ xs, itemsD d = some xs ∧ q (.int xs.length)) ∨ ∃ z, d = .str z ∧ z.length ≤ sizeLine ∧ q (.int z.length))
theorem cd_len : CallD X.K p (fun xs H Q => ∃ x n, xs = [x] ∧ LenV X.K x H n ∧ Q (.int n) H) lenD := by
  rintro xs ds H q Q r o ⟨d, rfl, w⟩ f
  obtain ⟨x, rfl, rx⟩ := r.one
  rcases w with ⟨zs, e, w⟩ | ⟨z, rfl, hz, w⟩
  · obtain ⟨a, ys, rfl, sq, ra⟩ := items_sq rx e
    refine ⟨_, ys.length, rfl, ?_, ?_⟩
    · rcases sq with sq | sq
      · exact .inl ⟨ys, sq, rfl⟩
      · exact .inr ⟨ys, sq, rfl⟩
    · rw [ra.length]
      exact f _ _ H w (.int _) (Ext.refl _ _) o
  · cases rx
    exact ⟨_, z.length, rfl, ⟨hz, rfl⟩, f _ _ H w (.int _) (Ext.refl _ _) o⟩
/-! ### type, isinstance -/
def kindD : D → String
  | .non => "NoneType" | .bl _ => "bool" | .int _ => "int" | .str _ => "str" | .tup _ => "tuple" | .lst _ => "list" | .seq _ => "list" | .emp => "dict" | .ptr _ => "" | .ty _ => ""
def isObjD : D → Bool
  | .ptr _ => false | .ty _ => false | _ => true
theorem rep_tyB {K : PySem.W.Frag} {q H x d} (r : Rep K q H x d) (h : isObjD d = true) : TyB K H x (kindD d) := by
  cases r with
  | non => exact .non
  | bl b => exact .bl b
  | int i => exact .int i
  | str z => exact .str z
  | tup g _ => exact .tup g.sq
  | lst g _ _ _ => exact .lst (.of g)
  | seq g _ _ => exact .lst (.of g)
  | emp g _ => exact .dK g
  | ptr _ => cases h
  | ty _ => cases h
def typeD : DCall := fun ds q => ∃ d, ds = [d] ∧ isObjD d = true ∧ q (.ty (kindD d))
theorem cd_type : CallD X.K p (rTyp X.K) typeD := by
  rintro xs ds H q Q r o ⟨d, rfl, h, w⟩ f
  obtain ⟨x, rfl, rx⟩ := r.one
  exact ⟨x, _, rfl, rep_tyB rx h, f _ _ H w (.ty _) (Ext.refl _ _) o⟩
theorem rep_tyX {K : PySem.W.Frag} {q H x d} (r : Rep K q H x d) (h : isObjD d = true) : TyX K H x (.type (kindD d)) := by
  cases r with
  | non => exact .base .non
  | bl b => exact .base (.bl b)
  | int i => exact .base (.int i)
  | str z => exact .base (.str z)
  | tup g _ =>
    rcases g with ⟨g | ⟨o, g⟩, _⟩ | ⟨o, its, n, hk, hc, _⟩
    · exact .base (.tup g)
    · exact .fTuple g
    · exact .kTuple hk hc
  | lst g _ _ _ => exact .base (.lst g)
  | seq g _ _ => exact .base (.lst g)
  | emp g _ => exact .base (.dK g)
  | ptr _ => cases h
  | ty _ => cases h
def isaT (a b : String) : Bool := decide (a = b) || (decide (a = "bool") && decide (b = "int"))
theorem kind_known : ∀ d : D, isObjD d = true → kindD d ∈ knownTy := by
  intro d h
  cases d <;> first | (cases h; done) | (show (_ : String) ∈ knownTy; unfold kindD knownTy; simp)
theorem kit_known {K : PySem.W.Frag} {a b : String} (ha : a ∈ knownTy) (hb : b ∈ knownTy) : PySem.W.kitOne K (.type a) (.type b) = some (isaT a b) := by
  have h : ∀ a ∈ knownTy, ∀ b ∈ knownTy, kitB a b = some (isaT a b) := by decide +kernel
  exact kit_ty (h a ha b hb)
def isiD : DCall := fun ds q => ∃ d n, ds = [d, .ty n] ∧ isObjD d = true ∧ n ∈ knownTy ∧ q (.bl (isaT (kindD d) n))
theorem cd_isi : CallD X.K p (rIsi X.K) isiD := by
  rintro xs ds H q Q r o ⟨d, n, rfl, h, hn, w⟩ f
  obtain ⟨x, y, rfl, rx, ry⟩ := r.two
  cases ry
  exact ⟨x, .ty n, _, _, _, rfl, .ty n, rep_tyX rx h, kit_known (kind_known d h) hn, f _ _ H w (.bl _) (Ext.refl _ _) o⟩
/-! ### int, str, abs, min, max, divmod -/
def intC : DCall := fun ds q => (∃ i, ds = [.int i] ∧ q (.int i)) ∨ ∃ b, ds = [.bl b] ∧ q (.int (b2z b))
theorem cd_int : CallD X.K p (fun xs H Q => (∃ i, xs = [.int i] ∧ Q (.int i) H) ∨ ∃ k, xs = [.bl k] ∧ Q (.int (if k then 1 else 0)) H) intC := by
  rintro xs ds H q Q r o w f
  rcases w with ⟨i, rfl, w⟩ | ⟨b, rfl, w⟩
  · obtain ⟨x, rfl, rx⟩ := r.one
    cases rx
    exact .inl ⟨i, rfl, f _ _ H w (.int _) (Ext.refl _ _) o⟩
  · obtain ⟨x, rfl, rx⟩ := r.one
    cases rx
    exact .inr ⟨b, rfl, f _ _ H w (.int _) (Ext.refl _ _) o⟩
def rStrB : List V → Hp → VK → Prop := fun xs H Q => ∃ b, xs = [.bl b] ∧ Q (.str (if b then "True" else "False")) H
theorem call_strB : CallR X (.type "str") rStrB := by
  intro pins s σ H xs us Q I r h
  obtain ⟨b, rfl, q⟩ := h
  cases r with
  | cons rx rr =>
    cases rr
    cases rx
    exact PySem.P.str_of_bool ⟨.str _, H, I.tok _, ⟨_, rfl⟩, q⟩
def strB : DCall := fun ds q => ∃ b, ds = [.bl b] ∧ q (.str (if b then "True" else "False"))
theorem cd_strB {K} : CallD K p rStrB strB := by
  rintro xs ds H q Q r o ⟨b, rfl, w⟩ f
  obtain ⟨x, rfl, rx⟩ := r.one
  cases rx
  exact ⟨b, rfl, f _ _ H w (.str _) (Ext.refl _ _) o⟩
def absC : DCall := fun ds q => ∃ i, ds = [.int i] ∧ q (.int (if i < 0 then -i else i))
theorem cd_abs {K} : CallD K p (fun xs H Q => ∃ i, xs = [.int i] ∧ Q (.int (if i < 0 then -i else i)) H) absC := by
  rintro xs ds H q Q r o ⟨i, rfl, w⟩ f
  obtain ⟨x, rfl, rx⟩ := r.one
  cases rx
  exact ⟨i, rfl, f _ _ H w (.int _) (Ext.refl _ _) o⟩
def intC2 (g : Int → Int → Int) : DCall := fun ds q => ∃ i j, ds = [.int i, .int j] ∧ q (.int (g i j))
theorem cd_int2 {K} {g : Int → Int → Int} : CallD K p (fun xs H Q => ∃ i j, xs = [.int i, .int j] ∧ Q (.int (g i j)) H) (intC2 g) := by
  rintro xs ds H q Q r o ⟨i, j, rfl, w⟩ f
  obtain ⟨x, y, rfl, rx, ry⟩ := r.two
  cases rx; cases ry
  exact ⟨i, j, rfl, f _ _ H w (.int _) (Ext.refl _ _) o⟩
/-! ### list(t), tuple(l), all(l) -/
def rListT (K : PySem.W.Frag) : List V → Hp → VK → Prop := fun xs H Q => ∃ a ys, xs = [.ref a] ∧ SqT K H a ys ∧ ∀ l, H l = none → l ≠ sysModules → Q (.ref l) (upd H l (.lst ys))
theorem call_listT : CallR X (.type "list") (rListT X.K) := by
  intro pins s σ H xs us Q I r h
  obtain ⟨a, ys, rfl, hq, q⟩ := h
  cases r with
  | cons rx rr =>
    cases rr
    cases rx
    obtain ⟨its, r', pl, hz⟩ := I.tuple hq
    have hlen := r'.length
    obtain ⟨o, ho, hc, n, hd⟩ := pl
    refine call_list_seq a (.inr rfl) ho hc hd (fun h' c' kp e => ?_) (by simp only [List.size_toArray] <;> omega)
    exact ⟨.ref s.heap.objs.size, _, I.laid (t' := s.toks) kp (Nat.le_refl _) (show ObjOk X.prog X.w _ h' _ (.lst ys) from ⟨hz, its, c', r', e⟩), rfl, q _ (I.hok.fresh (Nat.le_refl _)) (Nat.ne_of_gt I.big)⟩
def listC : DCall := fun ds q => ∃ xs, ds = [.tup xs] ∧ q (.lst xs)
theorem cd_list : CallD X.K p (rListT X.K) listC := by
  rintro xs ds H q Q r o ⟨zs, rfl, w⟩ f
  obtain ⟨x, rfl, rx⟩ := r.one
  cases rx with
  | tup h ra => exact ⟨_, _, rfl, h.sq, fun l n z => f _ _ _ w (new_lst ra n z o) (Ext.new n) (o.new n)⟩
def tupleC : DCall := fun ds q => ∃ d xs, ds = [d] ∧ (d = .lst xs ∨ d = .seq xs) ∧ q (.tup xs)
theorem cd_tuple : CallD X.K p (fun xs H Q => ∃ p ys, xs = [.ref p] ∧ ((SqL X.K H p ys ∧ ∀ l, H l = none → Q (.ref l) (upd H l (.tup ys))) ∨ (SqT X.K H p ys ∧ Q (.ref p) H))) tupleC := by
  rintro xs ds H q Q r o ⟨d, zs, rfl, w0, w⟩ f
  obtain ⟨x, rfl, rx⟩ := r.one
  rcases w0 with rfl | rfl
  · cases rx with
    | lst h1 h2 h3 ra => exact ⟨_, _, rfl, .inl ⟨.of h1, fun l n => f _ _ _ w (new_tup ra n o) (Ext.new n) (o.new n)⟩⟩
  · cases rx with
    | seq h1 h2 ra => exact ⟨_, _, rfl, .inl ⟨.of h1, fun l n => f _ _ _ w (new_tup ra n o) (Ext.new n) (o.new n)⟩⟩
theorem rep_bls {K q H} : ∀ {xs : List V} {bs : List Bool}, RepAll K q H xs (bs.map .bl) → xs = bs.map .bl
  | _, [], r => by cases r; rfl
  | _, b :: bs, r => by
    cases r with
    | cons r t => cases r; rw [rep_bls t]; rfl
def allC : DCall := fun ds q => ∃ (d : D) (bs : List Bool), ds = [d] ∧ (d = .lst (bs.map .bl) ∨ d = .seq (bs.map .bl)) ∧ q (.bl (bs.all id))
theorem cd_all : CallD X.K p (rAll X.K) allC := by
  rintro xs ds H q Q r o ⟨d, bs, rfl, e, w⟩ f
  obtain ⟨x, rfl, rx⟩ := r.one
  rcases e with rfl | rfl
  · cases rx with
    | lst h1 h2 h3 ra => have := rep_bls ra; subst this; exact ⟨_, bs, rfl, .of h1, f _ _ H w (.bl _) (Ext.refl _ _) o⟩
  · cases rx with
    | seq h1 h2 ra => have := rep_bls ra; subst this; exact ⟨_, bs, rfl, .of h1, f _ _ H w (.bl _) (Ext.refl _ _) o⟩
/-! ### repr -/
def reprD : DCall := fun ds q => ∃ d, ds = [d] ∧ d.plain = true ∧ d.dp ≤ 50 ∧ d.sz ≤ 1000000 ∧ q (.str d.py.shown)
def rRepr (K : PySem.W.Frag) (p : List Addr) : List V → Hp → VK → Prop := fun xs H Q => ∃ x d, xs = [x] ∧ Rep K p H x d ∧ d.plain = true ∧ d.dp ≤ 50 ∧ d.sz ≤ 1000000 ∧ Q (.str d.py.shown) H
theorem call_repr {q : List Addr} (hg : X.A.guards = some []) (hu : X.A.units + 64 < cLine) : CallR X (.builtin "repr") (rRepr X.K q) := by
  intro pins s σ H xs us Q I r h
  obtain ⟨x, d, rfl, rx, h1, h2, h3, w⟩ := h
  cases r with
  | @cons _ u _ _ rv rr =>
    cases rr
    obtain ⟨as, hr, hn⟩ := Rep.reads I d x _ h1 rx rv
    have hz := py_shown d h1
    have hl : d.py.shown.length ≤ sizeLine := by rw [sizeLine_eq]; omega
    have fin : ∀ (h' : Heap) (u tk : Tok), (∀ b o, s.heap.get? b = some o → h'.get? b = some o) → EP X pins σ Q (.str d.py.shown u) { s with heap := h', toks := tk } := fun h' u tk k => ⟨.str _, H, I.kept k, ⟨u, rfl⟩, w⟩
    have hd := py_depth d h1
    have hs := py_showable d h1
    have big : ∀ {a : Addr}, u = .ref a → wpAny (model X.prog X.w) X.A (call (.builtin "repr") [u]) (EP X pins σ Q) X.xe s := fun {a} e => by
      subst e
      exact repr_of_reads' hr hs (fun _ => hn) hg (by rw [hd]; omega) (fun _ _ e => e) fin hl
    cases rx with
    | non => cases rv; exact PySem.P.repr_of_none (by simpa only [D.py, PyData.shown_none] using fin s.heap _ _ fun _ _ e => e)
    | bl b => cases rv; exact PySem.P.repr_of_bool (by simpa only [D.py, PyData.shown_bool] using fin s.heap _ _ fun _ _ e => e)
    | int i =>
      obtain ⟨t, rfl⟩ := rv
      simp only [D.py, PyData.showable, decide_eq_true_eq] at hs
      exact PySem.P.repr_of_int hs (by simpa only [D.py, PyData.shown_int] using fin s.heap _ _ fun _ _ e => e)
    | str z =>
      obtain ⟨t, rfl⟩ := rv
      simp only [D.py, PyData.shown_str] at hl
      exact PySem.P.repr_of_str (by simpa only [D.py, PyData.shown_str] using fin s.heap _ _ fun _ _ e => e) hl
    | tup _ _ => exact big rv
    | lst _ _ _ _ => exact big rv
    | emp _ _ => exact big rv
    | ptr _ => simp only [D.plain] at h1; cases h1
    | seq _ _ _ => simp only [D.plain] at h1; cases h1
    | ty _ => simp only [D.plain] at h1; cases h1
theorem cd_repr {K} : CallD K p (rRepr K p.av) reprD := by
  rintro xs ds H q Q r o ⟨d, rfl, h1, h2, h3, w⟩ f
  obtain ⟨x, rfl, rx⟩ := r.one
  exact ⟨x, d, rfl, rx, h1, h2, h3, f _ _ H w (.str _) (Ext.refl _ _) o⟩
end
end Dl

set_option Elab.async false
set_option linter.all false
set_option maxRecDepth 100000
set_option maxHeartbeats 4000000
namespace Dl
open PySem PySem.Spec PyProof.Rows L2

/-! ## defs: a promise on data, where nothing is being shown -/
structure FnG (P : Program) (w : World) (K : PySem.W.Frag) (mg : Str → Option Value) (base : Heap) (k : Nat) (f : Addr) (fd : FuncData) (ps : List Str) (sp : Sp) : Prop where
  len : ∀ vs H Q E, sp vs H Q E → vs.length = ps.length
  run : ∀ (A : Around) (outer : List Env) (s : Shared) (H : Hp) (args : Args) (us : List Value) (vs : List V) (Q : VK) (E : XK), Room k A → A.guards = some [] → Env0 P w K mg base A outer s H → BindsTo s fd args (ps.zip us) → Vals vs us → sp vs H Q E →
    codeAny (model P w) A (.call (.ref f) args) (CR CX0 outer P w H s Q E) s
theorem FnG.imp {P : Program} {w : World} {K : PySem.W.Frag} {mg : Str → Option Value} {base : Heap} {k : Nat} {f : Addr} {fd : FuncData} {ps : List Str} {sp sp' : Sp} (F : FnG P w K mg base k f fd ps sp)
    (h : ∀ vs H Q E, sp' vs H Q E → sp vs H Q E) : FnG P w K mg base k f fd ps sp' :=
  ⟨fun vs H Q E q => F.len vs H Q E (h _ _ _ _ q), fun A outer s H args us vs Q E hr hg he hb hv hs => F.run A outer s H args us vs Q E hr hg he hb hv (h _ _ _ _ hs)⟩
theorem FnG.mono {P : Program} {w : World} {K : PySem.W.Frag} {mg : Str → Option Value} {base : Heap} {j k : Nat} {f : Addr} {fd : FuncData} {ps : List Str} {sp : Sp} (F : FnG P w K mg base j f fd ps sp) (h : j ≤ k) : FnG P w K mg base k f fd ps sp :=
  ⟨F.len, fun A outer s H args us vs Q E hr => F.run A outer s H args us vs Q E (hr.mono h)⟩
theorem FnG.of {P : Program} {w : World} {K : PySem.W.Frag} {mg : Str → Option Value} {base : Heap} {k : Nat} {f : Addr} {fd : FuncData} {ps : List Str} {sp : Sp} (F : FnOk P w K mg base CX0 k f fd ps sp) : FnG P w K mg base k f fd ps sp :=
  ⟨F.len, fun A outer s H args us vs Q E hr _ => F.run A outer s H args us vs Q E hr⟩
theorem fn_ofG {P : Program} {w : World} {K : PySem.W.Frag} {mg : Str → Option Value} {base : Heap} {k : Nat} {f : Addr} {name qual : Str} {params : Arguments} {body : List Stmt} {scope : Scope} {dV kV doc pm cdv ct oc : Value} {an od : Option Addr}
    {osl : Array (Option Value)} {N ps : List Str} {sp : Sp} (lk : K.lookup f = some ⟨oc, od, .func (PySem.W.fnOf name qual params body scope dV kV doc pm an cdv ct), osl⟩) (hcd : PySem.W.codeIn K cdv qual = true) (S : FnScope N ps scope)
    (len : ∀ vs H Q E, sp vs H Q E → vs.length = ps.length)
    (hbody : ∀ (A : Around) (outer : List Env) (s : Shared) (H : Hp) (vs : List V) (Q : VK) (E : XK), Room k (A.deeper (envOfC qual scope s.heap.objs.size f cdv)) → A.guards = some [] → sp vs H Q E →
      ∃ t, PSs (cxOf CX0 P w K mg base N qual scope f cdv A outer s H E) body t ∧ t { nx := fun _ H' => Q .non H', rt := Q } (L2.start N vs) H) :
    FnG P w K mg base (k + 1) f (PySem.W.fnOf name qual params body scope dV kV doc pm an cdv ct) ps sp := by
  refine ⟨len, fun A outer s H args us vs Q E hr hgd e0 hb r hsp => ?_⟩
  have hl := len _ _ _ _ hsp
  have KX : K.In s.heap := e0.mod.kin.keeps fun b o e => (e0.bs b o e).1
  have lim : s.heap.NoLimit := e0.mod.nolimit.keeps fun b o e => (e0.bs b o e).1
  have hkind : ∀ y ∈ ps.zip us, scope.names.lookup y.1 = some .local ∨ (scope.names.lookup y.1 = some .cell ∧ ((cellsFrom (s.heap.objs.size + 1) scope.names []).lookup y.1).isSome = true) := fun ⟨n, v⟩ hy => by
    rcases S.par n (List.of_mem_zip hy).1 with q | q
    · exact .inl q
    · exact .inr ⟨q, PySem.W.cellsFrom_some _ _ _ (.inl q)⟩
  refine codeAny_call_function hr.depth (KX _ _ lk) rfl S.co S.gen rfl (PySem.W.codeRec_of KX hcd) (hb _ _ _ _ ?_)
  refine wpAny_newFunctionEnv_cells S.kind hkind fun env he s1 x => ?_
  subst he
  refine ⟨lim.keeps x.toInCall.keep, codeAny_func ?_⟩
  obtain ⟨t, ht, hq⟩ := hbody A outer s H vs Q E (hr.deeper _) hgd hsp
  have I : Inv (cxOf CX0 P w K mg base N qual scope f cdv A outer s H E) [] (L2.start N vs) H s1 := inv_start S hr.hd e0 hl r x
  refine wpAny_mono (ht.run [] s1 (L2.start N vs) H _ I hq) (fun fl s' hs => ?_) fun e s' hs => hs
  have fin : ∀ {σ' : L2.St} {H' : Hp} {v : V} {u : Value}, Inv (cxOf CX0 P w K mg base N qual scope f cdv A outer s H E) [] σ' H' s' → RelV v u → Q v H' → CE outer P w H s Q u s' :=
    fun {σ' H' v u} J rv q => ⟨v, H', J.os, J.bare, J.base, J.hok, rv, q⟩
  cases fl with
  | ret u =>
    obtain ⟨v, σ', H', J, rv, q⟩ := hs
    exact fin J rv q
  | next =>
    obtain ⟨σ', H', J, q⟩ := hs
    exact fin (v := V.non) (u := Value.none) J rfl q
  | brk =>
    obtain ⟨_, _, _, q⟩ := hs
    exact False.elim q
  | cont =>
    obtain ⟨_, _, _, q⟩ := hs
    exact False.elim q
section
variable {P : Program} {w : World} {K : PySem.W.Frag} {mg : Str → Option Value} {base : Heap}
theorem FunG.ok {x qual : Str} {st : Stmt} {f : Addr} {fd : FuncData} {N ps : List Str} {k : Nat} {sp : Sp} (F : Fun K x qual st f fd) (S : FnScope N ps (defScope st)) (len : ∀ vs H Q E, sp vs H Q E → vs.length = ps.length)
    (hbody : ∀ (cdv : Value) (A : Around) (outer : List Env) (s : Shared) (H : Hp) (vs : List V) (Q : VK) (E : XK), Room k (A.deeper (envOfC qual (defScope st) s.heap.objs.size f cdv)) → A.guards = some [] → sp vs H Q E →
      ∃ t, PSs (cxOf CX0 P w K mg base N qual (defScope st) f cdv A outer s H E).nox (defBody st) t ∧ t { nx := fun _ H' => Q .non H', rt := Q } (L2.start N vs) H) : FnG P w K mg base (k + 1) f fd ps sp := by
  obtain ⟨oc, od, kV, doc, pm, an, cdv, ct, osl, rfl, lk, hcd⟩ := F.ex
  refine fn_ofG lk hcd S len fun A outer s H vs Q E hr hg hsp => ?_
  obtain ⟨t, h, q⟩ := hbody cdv A outer s H vs Q E hr hg hsp
  exact ⟨t, h.nox, q⟩
/-- a promise on data -/
def spD (K : PySem.W.Frag) (R : Res) (Fd : DCall) : Sp := fun vs H Q _ => ∃ ds q, RepAll K R.av H vs ds ∧ Pot R H ∧ Fd ds q ∧ Fin K R H q Q
def startD (N : List Str) (ds : List D) : DE := ds.map some ++ List.replicate (N.length - ds.length) none
theorem start_env {R : Res} {N : List Str} {H : Hp} {vs : List V} {ds : List D} (r : RepAll K R.av H vs ds) : REnv K R.av H (L2.start N vs) (startD N ds) := by
  refine ⟨by unfold L2.start startD; rw [List.length_append, List.length_append, List.length_map, List.length_map, List.length_replicate, List.length_replicate, r.length], fun i d e => ?_⟩
  unfold startD at e
  unfold L2.start
  by_cases hi : i < ds.length
  · rw [List.getElem?_append_left (by rw [List.length_map]; exact hi), List.getElem?_map] at e
    have hi' : i < vs.length := by rw [r.length]; exact hi
    rw [List.getElem?_append_left (by rw [List.length_map]; exact hi'), List.getElem?_map]
    cases q : ds[i]? with
    | none => rw [q] at e; cases e
    | some d' =>
      rw [q] at e
      cases e
      obtain ⟨v, hv, rv⟩ := r.get q
      exact ⟨v, by rw [hv]; rfl, rv⟩
  · rw [List.getElem?_append_right (by rw [List.length_map]; omega), List.getElem?_replicate] at e
    split at e <;> cases e
/-- THE RULE for a def: its body's reading on data -/
theorem FunD.ok {x qual : Str} {st : Stmt} {f : Addr} {fd : FuncData} {N ps : List Str} {k : Nat} {R : Res} {Fd : DCall} (F : Fun K x qual st f fd) (S : FnScope N ps (defScope st)) (len : ∀ ds q, Fd ds q → ds.length = ps.length)
    (hbody : ∀ (cdv : Value) (A : Around) (outer : List Env) (s : Shared) (H : Hp) (E : XK) (ds : List D) (q : D → Prop), Room k (A.deeper (envOfC qual (defScope st) s.heap.objs.size f cdv)) → A.guards = some [] → Fd ds q →
      ∃ t, ESs (cxOf CX0 P w K mg base N qual (defScope st) f cdv A outer s H E).nox R (defBody st) t ∧ t ⟨fun _ => q .non, q⟩ (startD N ds)) : FnG P w K mg base (k + 1) f fd ps (spD K R Fd) := by
  refine FunG.ok F S (fun vs H Q E ⟨ds, q, r, _, h, _⟩ => by rw [r.length]; exact len ds q h) (fun cdv A outer s H vs Q E hr hg ⟨ds, q, r, o, h, f⟩ => ?_)
  obtain ⟨t, ht, hq⟩ := hbody cdv A outer s H E ds q hr hg h
  exact ⟨_, ht, _, _, start_env r, o, hq, fun ρ σ H' w r' e o' => f _ _ H' w .non e o', f⟩
end
section
variable {X : Cx} {R : Res} {pos : Pos}
theorem run_fnG {k : Nat} {f : Addr} {fd : FuncData} {ps : List Str} {sp : Sp} {pins : List (Addr × Obj)} {σ : L2.St} {H : Hp} {s : Shared} {Q : VK} {us : List Value} {vs : List V} (F : FnG X.prog X.w X.K X.mg X.base k f fd ps sp) (hr : Room k X.A) (hg : X.A.guards = some []) (hb : Binds X.K fd ps [])
    (I : Inv X pins σ H s) (r : Vals vs us) (h : sp vs H Q E0) : wpAny (model X.prog X.w) X.A (call (.ref f) us) (EP X pins σ Q) X.xe s := by
  have hl : us.length = ps.length := by rw [← r.length]; exact F.len _ _ _ _ h
  have hb' := hb s us I.kIn (by rw [List.append_nil]; exact hl)
  rw [List.append_nil] at hb'
  refine wpAny_call (codeAny_mono (F.run X.A X.stack s H ⟨us, []⟩ us vs Q E0 hr hg I.env0 hb' r h) fun r s' hq => ?_)
  cases r with
  | error e => exact hq.elim
  | ok fl =>
    cases fl with
    | ret u => exact I.after hq
    | next => exact False.elim hq
    | brk => exact False.elim hq
    | cont => exact False.elim hq
theorem pe_callG {k : Nat} {f : Addr} {fd : FuncData} {ps : List Str} {sp : Sp} {x : Str} {p : Pos} {e : Expr} {es : List Expr} {t : TA} (F : FnG X.prog X.w X.K X.mg X.base k f fd ps sp) (hr : Room k X.A) (hgd : X.A.guards = some []) (hg : Gl X x) (hm : X.mg x = some (.ref f)) (hk : PySem.W.keepIn X.K (.ref f) = true) (hb : Binds X.K fd ps [])
    (ha : PA X (e :: es) t) (hdb : (x == ("__debug__" : Str)) = false := by decide) (he : starEach (e :: es) X.env = (false, eval e X.env) :: starEach es X.env := by rfl) (hpl : (backTo pos (starEach es X.env)).any (·.1) = false := by rfl) :
    PE X (.Call (.Name x p) (e :: es) [] pos) (fun σ H Q => t σ H fun vs H1 => sp vs H1 Q E0) := by
  refine ⟨fun pins s σ H Q I h => ?_⟩
  refine wpAny_Call_Name_kw (ld_glob I hg hm ?_ hdb)
  refine PySem.W.callWith_K (h₀ := X.base) I.ok.mod.kin hk (thn (ha.run pos pins s σ H _ I h) fun us s1 ⟨vs, H1, I1, r, q⟩ => ⟨I1.kIn, ?_⟩) he hpl
  exact run_fnG F hr hgd hb I1 r q
/-- all that a call of a def asks: its promise, its place, how it binds -/
structure Def (P : Program) (w : World) (K : PySem.W.Frag) (mg : Str → Option Value) (base : Heap) (x : Str) (k : Nat) (sp : Sp) : Prop where
  ex : ∃ (f : Addr) (fd : FuncData) (ps : List Str), FnG P w K mg base k f fd ps sp ∧ mg x = some (.ref f) ∧ PySem.W.keepIn K (.ref f) = true ∧ Binds K fd ps []
/-- f(e, ..) -/
theorem d_call {k : Nat} {x : Str} {p : Pos} {e : Expr} {es : List Expr} {ta : TDA} {Fd : DCall} (F : Def X.prog X.w X.K X.mg X.base x k (spD X.K R Fd)) (hr : Room k X.A) (hgd : X.A.guards = some []) (ha : EA X R (e :: es) ta) (hg : Gl X x := by rfl)
    (hdb : (x == ("__debug__" : Str)) = false := by decide) (he : starEach (e :: es) X.env = (false, eval e X.env) :: starEach es X.env := by rfl) (hpl : (backTo pos (starEach es X.env)).any (·.1) = false := by rfl) :
    EE X R (.Call (.Name x p) (e :: es) [] pos) (vCall Fd ta) := by
  obtain ⟨f, fd, ps, F, hm, hk, hb⟩ := F.ex
  exact PE_imp (pe_callG F hr hgd hg hm hk hb ha hdb he hpl) fun σ H Q ⟨ρ, q, hr, ho, w, f⟩ => ⟨ρ, _, hr, ho, w, fun ds vs H1 w1 r1 e1 o1 => ⟨ds, q, r1, o1, w1, f.step e1⟩⟩
/-- a local name that holds one of several defs -/
def vCallA (i : Nat) (S : Addr → DCall → Prop) (ta : TDA) : TDE := fun ρ q => ∃ f Fd, ρ[i]? = some (some (.ptr f)) ∧ S f Fd ∧ ta ρ fun ds => Fd ds q
structure HeldG (P : Program) (w : World) (K : PySem.W.Frag) (mg : Str → Option Value) (base : Heap) (k : Nat) (f : Addr) (sp : Sp) : Prop where
  ex : ∃ (fd : FuncData) (ps : List Str), FnG P w K mg base k f fd ps sp ∧ PySem.W.keepIn K (.ref f) = true ∧ Binds K fd ps []
theorem d_callA {k i : Nat} {x : Str} {p : Pos} {e : Expr} {es : List Expr} {ta : TDA} {S : Addr → DCall → Prop} (A : ∀ f Fd, S f Fd → HeldG X.prog X.w X.K X.mg X.base k f (spD X.K R Fd)) (hr : Room k X.A) (hgd : X.A.guards = some []) (ha : EA X R (e :: es) ta)
    (hN : X.N[i]? = some x := by rfl) (hv : Vis X.env.scope x := by first | exact Or.inl rfl | exact Or.inr (Or.inl rfl) | exact Or.inr (Or.inr rfl))
    (hdb : (x == ("__debug__" : Str)) = false := by decide) (hcd : (x == ("__classdict__" : Str)) = false := by decide)
    (he : starEach (e :: es) X.env = (false, eval e X.env) :: starEach es X.env := by rfl) (hpl : (backTo pos (starEach es X.env)).any (·.1) = false := by rfl) : EE X R (.Call (.Name x p) (e :: es) [] pos) (vCallA i S ta) := by
  refine ⟨fun pins s σ H Q I ⟨ρ, q, hre, ho, ⟨f, Fd, hs, hS, w⟩, fi⟩ => ?_⟩
  obtain ⟨v, hv1, hv2⟩ := hre.get hs
  cases hv2
  obtain ⟨fd, ps, F, hk, hb⟩ := (A f Fd hS).ex
  refine wpAny_Call_Name_kw (thn ((pe_var (pos := p) hN hv hdb hcd).run pins s σ H (fun v H1 => v = .ref f ∧ H1 = H) I ⟨.ref f, hv1, rfl, rfl⟩) fun u s1 ⟨v, H1, I1, r1, q1⟩ => ?_)
  obtain ⟨rfl, rfl⟩ := q1
  cases r1
  refine PySem.W.callWith_K (h₀ := X.base) I.ok.mod.kin hk (thn (ha.run pos pins s1 σ _ _ I1 ⟨ρ, _, hre, ho, w, fun ds vs H1 w1 r1 e1 o1 => (show spD X.K R Fd vs H1 Q E0 from ⟨ds, q, r1, o1, w1, fi.step e1⟩)⟩) fun us s2 ⟨vs, H2, I2, r, q⟩ => ⟨I2.kIn, ?_⟩) he hpl
  exact run_fnG F hr hgd hb I2 r q

/-! ## statements -/
def sNil : TDS := fun e ρ => e.nx ρ
def sSeq (t u : TDS) : TDS := fun e ρ => t ⟨u e, e.rt⟩ ρ
theorem ss_nil : ESs X R [] sNil := PSs_imp pss_nil fun E σ H ⟨ρ, e, r, o, w, f⟩ => f.nx ρ σ H w r (Ext.refl _ _) o
theorem ss_cons {st : Stmt} {rest : List Stmt} {t u : TDS} (h1 : ES X R st t) (h2 : ESs X R rest u) : ESs X R (st :: rest) (sSeq t u) := PSs_imp (pss_cons h1 h2) fun E σ H ⟨ρ, e, r, o, w, f⟩ =>
  ⟨ρ, _, r, o, w, fun ρ' σ' H' w' r' x' o' => ⟨ρ', e, r', o', w', f.step x'⟩, f.rt⟩
theorem ss_one {st : Stmt} {t : TDS} (h1 : ES X R st t) : ESs X R [st] t := pss_one h1
def sSet (i : Nat) (t : TDE) : TDS := fun e ρ => t ρ fun d => e.nx (ρ.set i (some d))
theorem s_set {i : Nat} {x : Str} {e : Expr} {t : TDE} {pos' : Pos} (nd : X.N.Nodup) (he : EE X R e t) (hi : X.N[i]? = some x := by rfl) (hx : Loc X.env.scope x := by first | exact Or.inl rfl | exact Or.inr rfl)
    (hs : swapsWith e (some (.Name x pos')) pos.line X.env = pure false := by rfl) (hf : X.fn x = true ∨ X.env.scope.names.lookup x = some .local := by first | exact .inl rfl | exact .inr rfl) : ES X R (.Assign [.Name x pos'] e pos) (sSet i t) :=
  PS_imp (ps_set nd hi hx he hs hf) fun E σ H ⟨ρ, en, r, o, w, f⟩ => ⟨ρ, _, r, o, w, fun d v H1 w1 r1 e1 o1 => f.nx _ _ H1 w1 ((r.mono e1).set r1 i) e1 o1⟩
def sRet (t : TDE) : TDS := fun e ρ => t ρ e.rt
theorem s_ret {e : Expr} {t : TDE} (he : EE X R e t) : ES X R (.Return (some e) pos) (sRet t) := PS_imp (ps_ret he) fun E σ H ⟨ρ, en, r, o, w, f⟩ => ⟨ρ, _, r, o, w, f.rt⟩
def sIf (c : TDT) (t u : TDS) : TDS := fun e ρ => c ρ fun b => if b = true then t e ρ else u e ρ
theorem s_if {c : Expr} {a b : List Stmt} {tc : TDT} {t u : TDS} (hc : ET X R c tc) (ha : ESs X R a t) (hb : ESs X R b u) : ES X R (.If c a b pos) (sIf tc t u) := PS_imp (ps_if hc ha hb) fun E σ H ⟨ρ, en, r, o, w, f⟩ => by
  refine ⟨ρ, _, r, o, w, fun k H1 w1 e1 o1 => ?_⟩
  cases k with
  | true => rw [if_pos rfl] at w1 ⊢; exact ⟨ρ, en, r.mono e1, o1, w1, f.step e1⟩
  | false => rw [if_neg Bool.false_ne_true] at w1 ⊢; exact ⟨ρ, en, r.mono e1, o1, w1, f.step e1⟩
/-- a, b = x, y -/
def sPar (i j : Nat) (t : TDA) : TDS := fun e ρ => t ρ fun ds => ∃ d c, ds = [d, c] ∧ e.nx ((ρ.set i (some d)).set j (some c))
theorem s_par {i j : Nat} {x y : Str} {a b : Expr} {t : TDA} {px py pt : Pos} {kt k2 pt2} (nd : X.N.Nodup) (hc : X.calm = true) (hij : i ≠ j) (ha : EA X R [a, b] t) (hi : X.N[i]? = some x := by rfl) (hj : X.N[j]? = some y := by rfl)
    (hx : X.env.scope.names.lookup x = some .local := by rfl) (hy : X.env.scope.names.lookup y = some .local := by rfl)
    (hw : swappedStores [.Tuple [.Name x px, .Name y py] kt pt] (.Tuple [a, b] k2 pt2) X.env = pure (some [x, y]) := by rfl)
    (hs : swapsWithSole [.Tuple [.Name x px, .Name y py] kt pt] (.Tuple [a, b] k2 pt2) pos.line X.env = pure false := by rfl) :
    ES X R (.Assign [.Tuple [.Name x px, .Name y py] kt pt] (.Tuple [a, b] k2 pt2) pos) (sPar i j t) :=
  PS_imp (ps_par hc nd hi hj hij hx hy ha hw hs) fun E σ H ⟨ρ, en, r, o, w, f⟩ => by
    refine ⟨ρ, _, r, o, w, ?_⟩
    rintro ds vs H1 ⟨d, c, rfl, w1⟩ r1 e1 o1
    obtain ⟨u, v, rfl, r2, r3⟩ := r1.two
    exact ⟨u, v, rfl, f.nx _ _ H1 w1 (((r.mono e1).set r2 i).set r3 j) e1 o1⟩
/-- a, b, .. = a tuple -/
def gNames : List Nat → TGs
  | [] => gNil
  | i :: is => gCons (gName i) (gNames is)
def setAll : List Nat → List D → DE → DE
  | i :: is, d :: ds, ρ => setAll is ds (ρ.set i (some d))
  | _, _, ρ => ρ
theorem gNames_ok {K : PySem.W.Frag} {q : List Addr} {H : Hp} : ∀ (is : List Nat) (vs : List V) (ds : List D) (σ : L2.St) (ρ : DE) (Q : L2.St → Hp → Prop), RepAll K q H vs ds → vs.length = is.length → REnv K q H σ ρ → (∀ σ', REnv K q H σ' (setAll is ds ρ) → Q σ' H) → gNames is vs σ H Q
  | [], vs, ds, σ, ρ, Q, r, hl, hr, h => by
    have e : vs = [] := List.eq_nil_of_length_eq_zero hl
    subst e
    cases r
    exact ⟨rfl, h σ hr⟩
  | i :: is, vs, ds, σ, ρ, Q, r, hl, hr, h => by
    cases r with
    | nil => cases hl
    | cons r t => exact ⟨_, _, rfl, gNames_ok is _ _ _ _ Q t (by simpa using hl) (hr.set r i) h⟩
def sUnp (is : List Nat) (t : TDE) : TDS := fun e ρ => t ρ fun d => ∃ ds, d = .tup ds ∧ ds.length = is.length ∧ e.nx (setAll is ds ρ)
theorem s_unp {is : List Nat} {es : List Expr} {e : Expr} {t : TDE} {k : Nat} {tp : Pos} (hc : X.calm = true) (hg : PGs X es (gNames is)) (he : EE X R e t) (hn : (assignEach es X.env).length = is.length := by rfl) (hst : (assignEach es X.env).findIdx? (·.1) = none := by rfl)
    (hs : swapsWithSole [.Tuple es k tp] e pos.line X.env = pure false := by rfl) (hw : swappedStores [.Tuple es k tp] e X.env = pure none := by rfl)
    (h1 : (assignEach [.Tuple es k tp] X.env).map (·.2) = [assign (.Tuple es k tp) X.env] := by rfl) : ES X R (.Assign [.Tuple es k tp] e pos) (sUnp is t) :=
  PS_imp (ps_asg he (pg_tup hc hg hn hst) hs hw h1) fun E σ H ⟨ρ, en, r, o, w, f⟩ => by
    refine ⟨ρ, _, r, o, w, ?_⟩
    rintro d v H1 ⟨ds, rfl, hl, w1⟩ r1 e1 o1
    cases r1 with
    | tup h ra =>
      refine ⟨_, _, rfl, h.sq, by rw [ra.length]; exact hl, ?_⟩
      exact gNames_ok is _ ds σ ρ _ ra (by rw [ra.length]; exact hl) (r.mono e1) fun σ' hr' => f.nx _ σ' H1 w1 hr' e1 o1

/-! ## what is walked -/
abbrev TDI := DE → (List D → Prop) → Prop
/-- the items, as they are walked: ds; nothing is made -/
def Walked (K : PySem.W.Frag) (R : Res) (H : Hp) (J : It) (ds : List D) : Prop :=
  ∃ (G : Hp → Prop) (Y : Nat → Hp → V → Hp → Prop), L2.Walk J ds.length G Y ∧ (∀ H', Ext R.av H H' → G H') ∧ ∀ i H1 x H2, i < ds.length → Ext R.av H H1 → Y i H1 x H2 → H2 = H1 ∧ ∃ d, ds[i]? = some d ∧ Rep K R.av H x d
def tDI (K : PySem.W.Frag) (R : Res) (t : TDI) : TI := fun σ H W => ∃ ρ q, REnv K R.av H σ ρ ∧ Pot R H ∧ t ρ q ∧ ∀ ds J H', q ds → Walked K R H' J ds → Ext R.p H H' → Pot R H' → W J H'
abbrev EI (X : Cx) (R : Res) (tg iter : Expr) (t : TDI) : Prop := PI X tg iter (tDI X.K R t)
theorem PI_imp {tg iter : Expr} {t t' : TI} (h : PI X tg iter t) (i : ∀ σ H W, t' σ H W → t σ H W) : PI X tg iter t' := ⟨fun pins s σ H W I w => h.run pins s σ H W I (i σ H W w)⟩
def iLst (t : TDE) : TDI := fun ρ q => t ρ fun d => ∃ ds, (d = .lst ds ∨ d = .seq ds) ∧ q ds
theorem i_lst {tg e : Expr} {t : TDE} (he : EE X R e t) : EI X R tg e (iLst t) := PI_imp (pi_list he) fun σ H W ⟨ρ, q, r, o, w, f⟩ => by
  refine ⟨ρ, _, r, o, w, ?_⟩
  rintro d v H1 ⟨ds, hd, w1⟩ r1 e1 o1
  have go : ∀ {a : Addr} {xs : List V}, H1 a = some (.lst xs) → a ∉ R.av → RepAll X.K R.av H1 xs ds → ∃ b, V.ref a = .ref b ∧ (∃ xs, SqL X.K H1 b xs) ∧ W (Itl X.K b) H1 := fun {a xs} h n ra => by
    refine ⟨a, rfl, ⟨xs, .of h⟩, f ds _ H1 w1 ⟨fun H => SqL X.K H a xs, YAt xs, ?_, fun H' e => .of (e _ _ n h), ?_⟩ e1 o1⟩
    · rw [← ra.length]; exact walk_list
    · rintro i H2 x H3 hil e2 ⟨rfl, hx⟩
      obtain ⟨d, h1, h2⟩ := ra.get' hx
      exact ⟨rfl, d, h1, h2⟩
  rcases hd with rfl | rfl
  · cases r1 with
    | lst h n z ra => exact go h n ra
  · cases r1 with
    | seq h n ra => exact go h n ra
def iStrD (t : TDE) : TDI := fun ρ q => t ρ fun d => ∃ z : Str, d = .str z ∧ q (z.cps.toList.map fun c => .str ⟨#[c]⟩)
theorem i_str {tg e : Expr} {t : TDE} (he : EE X R e t) : EI X R tg e (iStrD t) := PI_imp (pi_str he) fun σ H W ⟨ρ, q, r, o, w, f⟩ => by
  refine ⟨ρ, _, r, o, w, ?_⟩
  rintro d v H1 ⟨z, rfl, w1⟩ r1 e1 o1
  cases r1
  refine ⟨z, rfl, f _ _ H1 w1 ⟨fun _ => True, fun i H v H' => H' = H ∧ ∃ c, z.cps[i]? = some c ∧ v = .str ⟨#[c]⟩, ?_, fun _ _ => trivial, ?_⟩ e1 o1⟩
  · rw [List.length_map]
    exact walk_str
  · rintro i H2 x H3 hil e2 ⟨rfl, c, hc, rfl⟩
    refine ⟨rfl, .str ⟨#[c]⟩, ?_, .str _⟩
    rw [List.getElem?_map]
    have : z.cps.toList[i]? = some c := by simpa using hc
    rw [this]
    rfl
/-- range(n) -/
def iRangeD (t : TDA) : TDI := fun ρ q => t ρ fun ds => ∃ n : Int, ds = [.int n] ∧ n < 2 ^ 62 ∧ -(2 ^ 62) ≤ n ∧ q ((List.range n.toNat).map fun (k : Nat) => .int (k : Int))
theorem i_range {tg e : Expr} {p0 pos : Pos} {t : TDA} (hm : X.mg "range" = none) (he : EA X R [e] t) (hg : Gl X "range" := by rfl) (hs : starEach [e] X.env = [(false, eval e X.env)] := by rfl) : EI X R tg (.Call (.Name "range" p0) [e] [] pos) (iRangeD t) := PI_imp (pi_range1 hg hm he hs) fun σ H W ⟨ρ, q, r, o, w, f⟩ => by
  refine ⟨ρ, _, r, o, w, ?_⟩
  rintro ds vs H1 ⟨n, rfl, h1, h2, w1⟩ r1 e1 o1
  obtain ⟨x, rfl, rx⟩ := r1.one
  cases rx
  refine ⟨n, rfl, h2, h1, f _ _ H1 w1 ⟨fun _ => True, YFn fun i => .int (0 + (i : Int)), ?_, fun _ _ => trivial, ?_⟩ e1 o1⟩
  · rw [List.length_map, List.length_range]
    exact walk_range
  · rintro i H2 x H3 hil e2 ⟨rfl, rfl⟩
    rw [List.length_map, List.length_range] at hil
    refine ⟨rfl, .int (i : Int), ?_, by show Rep X.K R.av H1 (.int (0 + (i : Int))) _; rw [Int.zero_add]; exact .int _⟩
    rw [List.getElem?_map, List.getElem?_range hil]
    rfl

/-! ## for -/
def sFor (i : Nat) (w : TDI) (tb : TDS) : TDS := fun e ρ => w ρ fun ds => ∃ Iv : Nat → DE → Prop, Iv 0 ρ ∧ (∀ j d ρ', ds[j]? = some d → Iv j ρ' → tb ⟨Iv (j + 1), e.rt⟩ (ρ'.set i (some d))) ∧ ∀ ρ', Iv ds.length ρ' → e.nx ρ'
theorem s_for {i : Nat} {x : Str} {px : Pos} {iter : Expr} {body : List Stmt} {w : TDI} {tb : TDS} (nd : X.N.Nodup) (hp : PassesOwn (model X.prog X.w) X.A X.env X.xe) (hc : X.calm = true) (hi : EI X R (.Name x px) iter w) (hb : ESs X R body tb)
    (hx : X.N[i]? = some x := by rfl) (hl : Loc X.env.scope x := by first | exact Or.inl rfl | exact Or.inr rfl) (hf : X.fn x = true ∨ X.env.scope.names.lookup x = some .local := by first | exact .inl rfl | exact .inr rfl)
    (hs : ∀ x, foldedSetIterable iter X.env x = pure x := by intro _; rfl) : ES X R (.For (.Name x px) iter body [] pos) (sFor i w tb) :=
  PS_imp (ps_for hp hc hi (pg_name nd hx hl hf) hb hs) fun E σ H ⟨ρ, en, r, o, w, f⟩ => by
    refine ⟨ρ, _, r, o, w, ?_⟩
    rintro ds J H1 ⟨Iv, h0, hstep, hend⟩ ⟨G, Y, wk, gs, ys⟩ e1 o1
    refine for_it wk (fun j σ' H' => j ≤ ds.length ∧ Ext R.p H1 H' ∧ Pot R H' ∧ ∃ ρ', REnv X.K R.av H' σ' ρ' ∧ Iv j ρ') ⟨Nat.zero_le _, Ext.refl _ _, o1, ρ, r.mono e1, h0⟩ (fun j σ' H' _ ⟨_, e2, _⟩ => gs H' (Ext.av e2)) ?_ ?_
    · rintro j x σ' H' H'' hj ⟨_, e2, o2, ρ', r2, iv⟩ hy
      obtain ⟨rfl, d, hd, rd⟩ := ys j H' x H'' hj (Ext.av e2) hy
      refine ⟨ρ'.set i (some d), _, r2.set (rd.mono e2) i, o2, hstep j d ρ' hd iv, fun ρ3 σ3 H3 w3 r3 e3 o3 => ?_, f.rt.step (e1.trans e2)⟩
      exact ⟨hj, e2.trans e3, o3, ρ3, r3, w3⟩
    · rintro σ' H' ⟨_, e2, o2, ρ', r2, iv⟩
      exact f.nx ρ' σ' H' (hend ρ' iv) r2 (e1.trans e2) o2
end
end Dl

set_option Elab.async false
set_option linter.all false
set_option maxRecDepth 100000
set_option maxHeartbeats 4000000
namespace Dl
open PySem PySem.Spec PyProof.Rows L2
section
variable {X : Cx} {R : Res} {pos : Pos}
/-! ## [elt for x in iter] -/
def vLc (i : Nat) (w : TDI) (te : TDE) : TDE := fun ρ q => w ρ fun ds => ds.length ≤ sizeLine ∧ ∃ Pj : Nat → D → Prop, (∀ j d, ds[j]? = some d → te (ρ.set i (some d)) (Pj j)) ∧ ∀ es, es.length = ds.length → (∀ (j : Nat) (e : D), es[j]? = some e → Pj j e) → q (.seq es)
/-- the element, where the list at some A is being made -/
def tEl (K : PySem.W.Frag) (R : Res) (te : TDE) : TE := fun σ H Q => ∃ A, tD K (R.add A) te σ H Q
theorem REnv.weak {K p p' H} {σ : L2.St} {ρ : DE} (e : ∀ b ∈ p', b ∈ p) (h : REnv K p H σ ρ) : REnv K p' H σ ρ := ⟨h.1, fun i d q => by
  obtain ⟨v, h1, h2⟩ := h.2 i d q
  exact ⟨v, h1, h2.weak e⟩⟩
/-- data that was there ahead of a new object does not use it -/
theorem Rep.strong {K : PySem.W.Frag} {R : Res} {H : Hp} {A : Addr} (n : H A = none) : ∀ {v : V} {d : D}, Rep K R.av H v d → Rep K (R.add A).av H v d := by
  have key : ∀ b o, H b = some o → b ∉ R.av → b ∉ (R.add A).av := fun b o e h m => by
    rcases List.mem_append.mp m with m | m
    · exact h (List.mem_append_left _ m)
    · rcases List.mem_cons.mp m with rfl | m
      · rw [n] at e; cases e
      · exact h (List.mem_append_right _ m)
  have main : (∀ v d, Rep K R.av H v d → Rep K (R.add A).av H v d) ∧ (∀ vs ds, RepAll K R.av H vs ds → RepAll K (R.add A).av H vs ds) := by
    refine ⟨fun v d h => ?_, fun vs ds h => ?_⟩
    · exact Rep.rec (motive_1 := fun v d _ => Rep K (R.add A).av H v d) (motive_2 := fun vs ds _ => RepAll K (R.add A).av H vs ds) .non (fun b => .bl b) (fun i => .int i) (fun x => .str x)
        (fun h _ ih => .tup (by
          rcases h with ⟨h, nn⟩ | h
          · rcases h with h | ⟨o, h⟩
            · exact .inl ⟨.inl h, key _ _ h nn⟩
            · exact .inl ⟨.inr ⟨o, h⟩, key _ _ h nn⟩
          · exact .inr h) ih) (fun h nn z _ ih => .lst h (key _ _ h nn) z ih) (fun h nn => .emp h (key _ _ h nn)) (fun a => .ptr a) (fun h nn _ ih => .seq h (key _ _ h nn) ih) (fun n => .ty n) .nil (fun _ _ a b => .cons a b) h
    · exact RepAll.rec (motive_1 := fun v d _ => Rep K (R.add A).av H v d) (motive_2 := fun vs ds _ => RepAll K (R.add A).av H vs ds) .non (fun b => .bl b) (fun i => .int i) (fun x => .str x)
        (fun h _ ih => .tup (by
          rcases h with ⟨h, nn⟩ | h
          · rcases h with h | ⟨o, h⟩
            · exact .inl ⟨.inl h, key _ _ h nn⟩
            · exact .inl ⟨.inr ⟨o, h⟩, key _ _ h nn⟩
          · exact .inr h) ih) (fun h nn z _ ih => .lst h (key _ _ h nn) z ih) (fun h nn => .emp h (key _ _ h nn)) (fun a => .ptr a) (fun h nn _ ih => .seq h (key _ _ h nn) ih) (fun n => .ty n) .nil (fun _ _ a b => .cons a b) h
  exact fun {v d} h => main.1 v d h
theorem REnv.strong {K : PySem.W.Frag} {R : Res} {H : Hp} {A : Addr} {σ : L2.St} {ρ : DE} (n : H A = none) (h : REnv K R.av H σ ρ) : REnv K (R.add A).av H σ ρ := ⟨h.1, fun i d q => by
  obtain ⟨v, h1, h2⟩ := h.2 i d q
  exact ⟨v, h1, h2.strong n⟩⟩
theorem REnv.drop {K p H} {σ : L2.St} {ρ : DE} (h : REnv K p H σ ρ) (i : Nat) : REnv K p H (wipe σ [i]) (ρ.set i none) := by
  refine ⟨by rw [wipe_length, List.length_set]; exact h.1, fun j d q => ?_⟩
  have hj : i ≠ j := fun e => by
    subst e
    by_cases hl : i < ρ.length
    · rw [List.getElem?_set_self hl] at q; cases q
    · rw [List.getElem?_eq_none (by rw [List.length_set]; omega)] at q; cases q
  rw [List.getElem?_set_ne hj] at q
  show ∃ v, (σ.set i none)[j]? = some (some v) ∧ _
  rw [List.getElem?_set_ne hj]
  exact h.2 j d q
theorem lc_ok {K : PySem.W.Frag} {i : Nat} {w : TDI} {te : TDE} : ∀ σ H Q, tD K R (vLc i w te) σ H Q → tLc (tDI K R w) (gName i) tYes (tEl K R te) [i] σ H Q := by
  rintro σ H Q ⟨ρ, q, r, o, w0, f⟩
  refine ⟨ρ, _, r, o, w0, ?_⟩
  rintro ds J H1 ⟨hz, Pj, hstep, hend⟩ ⟨G, Y, wk, gs, ys⟩ e1 o1 A nA
  have eA : Ext R.p H1 (upd H1 A (.lst [])) := Ext.new nA
  have rS : REnv K (R.add A).av (upd H1 A (.lst [])) σ ρ := ((r.mono e1).strong nA).mono0 (Ext.new nA)
  refine lc_it wk (fun j H' => j ≤ ds.length ∧ Ext R.p H1 H' ∧ Pot R H' ∧ ∃ acc es, H' A = some (.lst acc) ∧ RepAll K (R.add A).av H' acc es ∧ es.length = j ∧ (∀ (k : Nat) (e : D), es[k]? = some e → Pj k e) ∧ REnv K (R.add A).av H' σ ρ)
    ⟨Nat.zero_le _, eA, o1.new nA, [], [], upd_same, .nil, rfl, fun k e h => by simp at h, rS⟩ (fun j H' _ ⟨_, e2, _⟩ => gs H' (Ext.av e2)) ?_ ?_
  · rintro j x H' H'' hj ⟨_, e2, o2, acc, es, hA, ra, hl, hP, re⟩ hy
    obtain ⟨rfl, d, hd, rd⟩ := ys j H' x H'' hj (Ext.av e2) hy
    have nAp : A ∉ R.p := fun m => (Pot.nin (R := R) o1 nA) (List.mem_append_left _ m)
    have oA : Pot (R.add A) H'' := Pot.add o2 nAp (by rw [hA]; exact fun z => nomatch z)
    -- the item itself was there ahead of the list: it is read at H1
    refine ⟨by show (((σ.set i none).set i (some x)).set i none) = σ.set i none; rw [List.set_set, List.set_set], ?_⟩
    dsimp only [tYes]
    rw [if_pos rfl]
    have hset : ((wipe σ [i]).set i (some x)) = (σ.set i (some x)) := by show (σ.set i none).set i (some x) = _; rw [List.set_set]
    refine ⟨A, ρ.set i (some d), Pj j, ?_, oA, hstep j d hd, ?_⟩
    · rw [hset]
      exact re.set (Rep.mono0 (p := (R.add A).av) (fun b u nb hb => e2 b u (fun m => nb (List.mem_append_left _ m)) hb) (rd.strong nA)) i
    · rintro e y H4 we ry e4 o4
      have h4 : H4 A = some (.lst acc) := e4 A _ (fun m => (Pot.nin (R := R) o1 nA) (List.mem_append_left _ m)) hA
      refine ⟨acc, h4, ?_, hj, ?_, ?_, acc ++ [y], es ++ [e], upd_same, ?_, by rw [List.length_append, hl]; rfl, ?_, ?_⟩
      · have := ra.length
        omega
      · intro b u nb hb
        have nbA : b ≠ A := ne_of_none hb nA
        rw [upd_ne nbA]
        exact e4 b u nb (e2 b u nb hb)
      · refine Pot.mix o1 (fun b u nb hb => ?_) (Pot.of_add o4) (fun b m => upd_ne (fun e => nAp (e ▸ m)))
        rw [upd_ne (ne_of_none hb nA)]
        exact e4 b u nb (e2 b u nb hb)
      · exact ((ra.mono (R := R.add A) e4).append (.cons ry .nil)).mono0 (Ext.put Res.add_mem)
      · intro k e' hk
        by_cases hkl : k < es.length
        · rw [List.getElem?_append_left hkl] at hk
          exact hP k e' hk
        · rw [List.getElem?_append_right (by omega)] at hk
          have hk0 : k - es.length = 0 := by
            by_cases h0 : k - es.length = 0
            · exact h0
            · rw [List.getElem?_eq_none (by simp; omega)] at hk; cases hk
          rw [hk0] at hk
          have : e = e' := by simpa using hk
          subst this
          have : k = j := by omega
          subst this
          exact we
      · exact (re.mono (R := R.add A) e4).mono0 (Ext.put Res.add_mem)
  · rintro H' ⟨_, e2, o2, acc, es, hA, ra, hl, hP, re⟩
    refine f _ _ H' (hend es hl hP) (.seq hA (Pot.nin (R := R) o1 nA) (RepAll.weak (fun b hb => Res.add_av hb) ra)) (e1.trans e2) o2
/-- [elt for x in iter], its own slot i -/
theorem d_lc {i : Nat} {x : Str} {px : Pos} {elt iter : Expr} {scope : Scope} {w : TDI} {te : TDE} (hc : X.calm = true) (nd : X.N.Nodup) (hi : EI X R (.Name x px) iter w) (ok : BlkOk X.N X.env.scope scope [(x, i)])
    (hg : ∀ (s : Shared) (H : Hp) (C : Addr) (cl : List (Str × Addr)) (fp : List Addr), PG (X.blk s H scope (compEnvC scope cl C X.env) fp) (.Name x px) (gName i))
    (he : ∀ (s : Shared) (H : Hp) (C : Addr) (cl : List (Str × Addr)) (fp : List Addr) (A : Addr), EE (X.blk s H scope (compEnvC scope cl C X.env) fp) (R.add A) elt te) (hs : ∀ x, foldedSetIterable iter X.env x = pure x := by intro _; rfl) :
    EE X R (.ListComp elt [⟨.Name x px, iter, [], 0⟩] scope pos) (vLc i w te) :=
  PE_imp (pe_lc (own := [(x, i)]) (g := gName i) (tt := tYes) (te := tEl X.K R te) hc nd hi ok hg (fun _ _ _ _ _ => pts_nil) (fun s H C cl fp => ⟨fun pins s' σ H' Q I ⟨A, w⟩ => (he s H C cl fp A).run pins s' σ H' Q I w⟩) hs) lc_ok

/-! ## texts -/
def vUpper (t : TDE) : TDE := fun ρ q => t ρ fun d => ∃ a, d = .str a ∧ a.length ≤ 5592405 ∧ q (.str (Txt.upper a))
theorem d_upper {o : Expr} {apos pos : Pos} {t : TDE} (ho : EE X R o t) (hbase : attributeBase o "upper" X.env (eval o X.env) = eval o X.env := by rfl) (hline : (apos.endLine == pos.line) = true := by rfl) : EE X R (.Call (.Attribute o "upper" apos) [] [] pos) (vUpper t) :=
  PE_imp (pe_upper ho hbase hline) fun σ H Q ⟨ρ, q, r, o, w, f⟩ => by
    refine ⟨ρ, _, r, o, w, ?_⟩
    rintro d v H1 ⟨a, rfl, hz, w1⟩ r1 e1 o1
    cases r1
    exact ⟨⟨a, rfl⟩, a, rfl, rfl, hz, f _ _ H1 w1 (.str _) e1 o1⟩
theorem rep_strs {K q H} : ∀ {xs : List V} {ys : List Str}, RepAll K q H xs (ys.map .str) → xs = ys.map .str
  | _, [], r => by cases r; rfl
  | _, b :: bs, r => by
    cases r with
    | cons r t => cases r; rw [rep_strs t]; rfl
def vJoin (ts te : TDE) : TDE := fun ρ q => ts ρ fun d => ∃ a, d = .str a ∧ te ρ fun e => ∃ ys : List Str, (e = .lst (ys.map .str) ∨ e = .seq (ys.map .str)) ∧ (ys.map (·.length)).sum + ys.length * a.length ≤ 16777216 ∧ q (.str (Txt.join a ys))
theorem d_join {o e : Expr} {apos pos : Pos} {ts te : TDE} (ho : EE X R o ts) (he : EE X R e te) (hs : starEach [e] X.env = [(false, eval e X.env)] := by rfl) (hbase : attributeBase o "join" X.env (eval o X.env) = eval o X.env := by rfl) (hline : (apos.endLine == pos.line) = true := by rfl) :
    EE X R (.Call (.Attribute o "join" apos) [e] [] pos) (vJoin ts te) :=
  PE_imp (pe_join ho he hs hbase hline) fun σ H Q ⟨ρ, q, r, o, w, f⟩ => by
    refine ⟨ρ, _, r, o, w, ?_⟩
    rintro d v H1 ⟨a, rfl, w1⟩ r1 e1 o1
    cases r1
    refine ⟨⟨a, rfl⟩, ρ, _, r.mono e1, o1, w1, ?_⟩
    rintro e v H2 ⟨ys, hy, hz, w2⟩ r2 e2 o2
    rcases hy with rfl | rfl
    · cases r2 with
      | lst h n z ra => have := rep_strs ra; subst this; exact ⟨a, _, ys, rfl, rfl, .inl (.of h), hz, f _ _ H2 w2 (.str _) (e1.trans e2) o2⟩
    · cases r2 with
      | seq h n ra => have := rep_strs ra; subst this; exact ⟨a, _, ys, rfl, rfl, .inl (.of h), hz, f _ _ H2 w2 (.str _) (e1.trans e2) o2⟩

/-! ## a written dict of the module, with text keys -/
def inKd (K : PySem.W.Frag) (d : Addr) (neg : Bool) : DOp := fun dx dy q => ∃ (z : Str) (r : Option Value), dx = .str z ∧ dy = .ptr d ∧ PySem.W.nsIn K d z = some r ∧ q (.bl (if neg then !r.isSome else r.isSome))
theorem opd_notKd {K : PySem.W.Frag} {d : Addr} : OpD K R (fun x y H Q => ∃ (z : Str) (r : Option Value), x = .str z ∧ y = .ref d ∧ PySem.W.nsIn K d z = some r ∧ Q (.bl (!r.isSome)) H) (inKd K d true) := by
  rintro x y dx dy H q Q rx ry o ⟨z, r, rfl, rfl, e, w⟩ f
  cases rx; cases ry
  exact ⟨z, r, rfl, rfl, e, f _ _ H w (.bl _) (Ext.refl _ _) o⟩
def ixKd (K : PySem.W.Frag) (w : World) : DOp := fun dx dy q => ∃ p z f, dx = .ptr p ∧ dy = .str z ∧ KDct K w p z (.ref f) ∧ q (.ptr f)
theorem opd_ixKd {K : PySem.W.Frag} {w : World} : OpD K R (rIxD K w) (ixKd K w) := by
  rintro x y dx dy H q Q rx ry o ⟨p, z, a, rfl, rfl, e, w⟩ f
  cases rx; cases ry
  exact ⟨p, z, _, rfl, rfl, e, f _ _ H w (.ptr _) (Ext.refl _ _) o⟩
theorem d_ixKd {a b : Expr} {ta tb : TDE} (ha : EE X R a ta) (hb : EE X R b tb) (hs : PlainIx b := by intro _ _; rfl) : EE X R (.Subscript a b pos) (vOp (ixKd X.K X.w) ta tb) := PE_imp (pe_ix ix_kdict ha hb hs) (tOp_of opd_ixKd)
theorem rep_of_strs {K : PySem.W.Frag} {q : List Addr} {H : Hp} : ∀ zs : List Str, RepAll K q H (zs.map V.str) (zs.map .str)
  | [] => .nil
  | z :: zs => .cons (.str z) (rep_of_strs zs)
/-- a module's constant tuple of texts -/
theorem d_gtup {x : Str} {a : Addr} {zs : List Str} {pos : Pos} {o : Obj} {its : Array Value} {n : Nat} (hm : X.mg x = some (.ref a)) (hk : X.K.lookup a = some o) (hc : o.cls = .type "tuple") (hd : o.data = .seq its n) (hz : its.size ≤ sizeLine) (hv : Vals (zs.map V.str) its.toList)
    (hg : Gl X x := by rfl) (hdb : (x == ("__debug__" : Str)) = false := by decide) : EE X R (.Name x pos) (vC (.tup (zs.map .str))) :=
  d_of_c (v := .ref a) (pe_glob (v := .ref a) hg hm rfl hdb) fun H => .tup (.inr ⟨o, its, n, hk, hc, hd, hz, hv⟩) (rep_of_strs zs)
end
end Dl

set_option Elab.async false
set_option linter.all false
set_option maxRecDepth 100000
set_option maxHeartbeats 4000000
namespace Dl
open PySem PySem.Spec PyProof.Rows L2
section
variable {X : Cx} {R : Res} {pos : Pos}
/-! ## pots -/
/-- pot[k]: some int -/
def vPot (a : Addr) (i : Nat) : TDE := fun ρ q => ρ[i]? = some (some (.ptr a)) ∧ ∀ x : Int, q (.int x)
theorem d_pot {a : Addr} {i : Nat} {x : Str} {k : Nat} {j : Nat} {p1 p2 : Pos} (hp : PotAt a R) (hk : k < 3) (hN : X.N[i]? = some x := by rfl) (hv : Vis X.env.scope x := by first | exact Or.inl rfl | exact Or.inr (Or.inl rfl) | exact Or.inr (Or.inr rfl))
    (hd : (x == ("__debug__" : Str)) = false := by decide) (hcd : (x == ("__classdict__" : Str)) = false := by decide) (hs : PlainIx (.Constant (.int (k : Int)) j p2) := by intro _ _; rfl) :
    EE X R (.Subscript (.Name x p1) (.Constant (.int (k : Int)) j p2) pos) (vPot a i) :=
  PE_imp (pe_ix ix_list (pe_var hN hv hd hcd) pe_int hs) fun σ H Q ⟨ρ, q, r, o, ⟨e, w⟩, f⟩ => by
    obtain ⟨v, h1, h2⟩ := r.get e
    cases h2
    obtain ⟨x, y, z, hz⟩ := hp.at_ H o
    refine ⟨_, h1, a, _, (k : Int), ([V.int x, V.int y, V.int z])[k]'(by simpa using hk), rfl, rfl, .of hz, atI_nat (by simp [hk]), ?_⟩
    have : ∃ u : Int, ([V.int x, V.int y, V.int z])[k]'(by simpa using hk) = V.int u := by
      rcases k with _ | _ | _ | k
      · exact ⟨x, rfl⟩
      · exact ⟨y, rfl⟩
      · exact ⟨z, rfl⟩
      · omega
    obtain ⟨u, hu⟩ := this
    rw [hu]
    exact f _ _ H (w u) (.int u) (Ext.refl _ _) o
theorem pot_put {a : Addr} {H : Hp} {k : Nat} {u : Int} (hp : PotAt a R) (o : Pot R H) (hk : k < 3) : ∃ xs, H a = some (.lst xs) ∧ ixN xs.length (k : Int) = some k ∧ Ext R.p H (upd H a (.lst (xs.set k (.int u)))) ∧ Pot R (upd H a (.lst (xs.set k (.int u)))) := by
  obtain ⟨x, y, z, hz⟩ := hp.at_ H o
  refine ⟨_, hz, ?_, Ext.put hp.mem, ?_⟩
  · unfold ixN
    rw [if_pos (by omega), if_pos (by simp; omega)]
    simp
  · rcases k with _ | _ | _ | k
    · exact hp.put H u y z o
    · exact hp.put H x u z o
    · exact hp.put H x y u o
    · omega
/-- pot[k] = e -/
def sPot (a : Addr) (i : Nat) (t : TDE) : TDS := fun e ρ => ρ[i]? = some (some (.ptr a)) ∧ t ρ fun d => ∃ x : Int, d = .int x ∧ e.nx ρ
theorem s_pot {a : Addr} {i : Nat} {x : Str} {k : Nat} {j : Nat} {p1 p2 p3 : Pos} {e : Expr} {t : TDE} (hp : PotAt a R) (hk : k < 3) (he : EE X R e t) (hN : X.N[i]? = some x := by rfl) (hv : Vis X.env.scope x := by first | exact Or.inl rfl | exact Or.inr (Or.inl rfl) | exact Or.inr (Or.inr rfl))
    (hd : (x == ("__debug__" : Str)) = false := by decide) (hcd : (x == ("__classdict__" : Str)) = false := by decide)
    (ha : ∀ v, assign (.Subscript (.Name x p1) (.Constant (.int (k : Int)) j p2) p3) X.env v = (do
      let ov ← holding [v] (eval (.Name x p1) X.env)
      let iv ← holding [v, ov] (eval (.Constant (.int (k : Int)) j p2) X.env)
      standAt p3
      holding [v, ov, iv] (setItem ov iv v)
      release [v, ov, iv] []) := by intro _; rfl)
    (hs : swapsWithSole [.Subscript (.Name x p1) (.Constant (.int (k : Int)) j p2) p3] e pos.line X.env = pure false := by rfl) (hw : swappedStores [.Subscript (.Name x p1) (.Constant (.int (k : Int)) j p2) p3] e X.env = pure none := by rfl)
    (h1 : (assignEach [.Subscript (.Name x p1) (.Constant (.int (k : Int)) j p2) p3] X.env).map (·.2) = [assign (.Subscript (.Name x p1) (.Constant (.int (k : Int)) j p2) p3) X.env] := by rfl) :
    ES X R (.Assign [.Subscript (.Name x p1) (.Constant (.int (k : Int)) j p2) p3] e pos) (sPot a i t) :=
  PS_imp (ps_asg he (pg_sub (pe_var hN hv hd hcd) pe_int set_list ha) hs hw h1) fun E σ H ⟨ρ, en, r, o, ⟨hi, w⟩, f⟩ => by
    refine ⟨ρ, _, r, o, w, ?_⟩
    rintro d v H1 ⟨u, rfl, w1⟩ r1 e1 o1
    cases r1
    obtain ⟨va, hv1, hv2⟩ := r.get hi
    cases hv2
    obtain ⟨xs, hx, hix, e2, o2⟩ := pot_put (u := u) hp o1 hk
    exact ⟨_, hv1, a, xs, (k : Int), k, rfl, rfl, hx, hix, f.nx ρ _ _ w1 (r.mono (e1.trans e2)) (e1.trans e2) o2⟩
/-- pot[k], x = a pair of ints -/
def sPotUnp (a : Addr) (i j : Nat) (t : TDE) : TDS := fun e ρ => ρ[i]? = some (some (.ptr a)) ∧ t ρ fun d => ∃ x y : Int, d = .tup [.int x, .int y] ∧ e.nx (ρ.set j (some (.int y)))
theorem s_potUnp {a : Addr} {i j0 : Nat} {x y : Str} {k : Nat} {j : Nat} {p1 p2 p3 p4 p5 : Pos} {k5 : Nat} {e : Expr} {t : TDE} (nd : X.N.Nodup) (hc : X.calm = true) (hp : PotAt a R) (hk : k < 3) (he : EE X R e t) (hij : i ≠ j0) (hN : X.N[i]? = some x := by rfl) (hy : X.N[j0]? = some y := by rfl)
    (hv : Vis X.env.scope x := by first | exact Or.inl rfl | exact Or.inr (Or.inl rfl) | exact Or.inr (Or.inr rfl)) (hly : Loc X.env.scope y := by first | exact Or.inl rfl | exact Or.inr rfl) (hfy : X.fn y = true ∨ X.env.scope.names.lookup y = some .local := by first | exact .inl rfl | exact .inr rfl)
    (hd : (x == ("__debug__" : Str)) = false := by decide) (hcd : (x == ("__classdict__" : Str)) = false := by decide)
    (ha : ∀ v, assign (.Subscript (.Name x p1) (.Constant (.int (k : Int)) j p2) p3) X.env v = (do
      let ov ← holding [v] (eval (.Name x p1) X.env)
      let iv ← holding [v, ov] (eval (.Constant (.int (k : Int)) j p2) X.env)
      standAt p3
      holding [v, ov, iv] (setItem ov iv v)
      release [v, ov, iv] []) := by intro _; rfl)
    (hn : (assignEach [.Subscript (.Name x p1) (.Constant (.int (k : Int)) j p2) p3, .Name y p4] X.env).length = 2 := by rfl) (hst : (assignEach [.Subscript (.Name x p1) (.Constant (.int (k : Int)) j p2) p3, .Name y p4] X.env).findIdx? (·.1) = none := by rfl)
    (hq1 : (assignEach [.Subscript (.Name x p1) (.Constant (.int (k : Int)) j p2) p3, .Name y p4] X.env).map (·.2) = assign (.Subscript (.Name x p1) (.Constant (.int (k : Int)) j p2) p3) X.env :: (assignEach [.Name y p4] X.env).map (·.2) := by rfl)
    (hq2 : (assignEach [.Name y p4] X.env).map (·.2) = assign (.Name y p4) X.env :: (assignEach [] X.env).map (·.2) := by rfl)
    (hs : swapsWithSole [.Tuple [.Subscript (.Name x p1) (.Constant (.int (k : Int)) j p2) p3, .Name y p4] k5 p5] e pos.line X.env = pure false := by rfl) (hw : swappedStores [.Tuple [.Subscript (.Name x p1) (.Constant (.int (k : Int)) j p2) p3, .Name y p4] k5 p5] e X.env = pure none := by rfl)
    (h1 : (assignEach [.Tuple [.Subscript (.Name x p1) (.Constant (.int (k : Int)) j p2) p3, .Name y p4] k5 p5] X.env).map (·.2) = [assign (.Tuple [.Subscript (.Name x p1) (.Constant (.int (k : Int)) j p2) p3, .Name y p4] k5 p5) X.env] := by rfl) :
    ES X R (.Assign [.Tuple [.Subscript (.Name x p1) (.Constant (.int (k : Int)) j p2) p3, .Name y p4] k5 p5] e pos) (sPotUnp a i j0 t) :=
  PS_imp (ps_asg he (pg_tup hc (pgs_cons (pg_sub (pe_var hN hv hd hcd) pe_int set_list ha) (pgs_cons (pg_name nd hy hly hfy) pgs_nil hq2) hq1) hn hst) hs hw h1) fun E σ H ⟨ρ, en, r, o, ⟨hi, w⟩, f⟩ => by
    refine ⟨ρ, _, r, o, w, ?_⟩
    rintro d v H1 ⟨u, z, rfl, w1⟩ r1 e1 o1
    cases r1 with
    | tup h ra =>
      obtain ⟨v1, v2, rfl, rv1, rv2⟩ := ra.two
      cases rv1; cases rv2
      obtain ⟨va, hv1, hv2⟩ := r.get hi
      cases hv2
      obtain ⟨xs, hx, hix, e2, o2⟩ := pot_put (u := u) hp o1 hk
      exact ⟨_, _, rfl, h.sq, rfl, _, _, rfl, ⟨_, hv1, a, xs, (k : Int), k, rfl, rfl, hx, hix, _, _, rfl, rfl, f.nx _ _ _ w1 ((r.mono (e1.trans e2)).set (.int z) j0) (e1.trans e2) o2⟩⟩
/-! ## divmod -/
def divmodC : DCall := fun ds q => ∃ i j, ds = [.int i, .int j] ∧ CDiv i j ∧ q (.tup [.int (i / j), .int (i % j)])
theorem cd_divmod {K} : CallD K R (fun xs H Q => ∃ i j, xs = [.int i, .int j] ∧ CDiv i j ∧ ∀ p, H p = none → Q (.ref p) (upd H p (.tup [.int (i / j), .int (i % j)]))) divmodC := by
  rintro xs ds H q Q r o ⟨i, j, rfl, hc, w⟩ f
  obtain ⟨x, y, rfl, rx, ry⟩ := r.two
  cases rx; cases ry
  exact ⟨i, j, rfl, hc, fun a n => f _ _ _ w (new_tup (.cons (.int _) (.cons (.int _) .nil)) n o) (Ext.new n) (o.new n)⟩

/-! ## {'k': v, ..}.get(w, d) -/
/-- the values, one after another -/
def vVals : List TDE → DE → (List D → Prop) → Prop
  | [], _, q => q []
  | t :: ts, ρ, q => t ρ fun d => vVals ts ρ fun ds => q (d :: ds)
def keysOf (ks : List Str) (vs : List V) : List (Key × V) := (ks.map Sum.inr).zip vs
def getD' (ks : List Str) (ds : List D) (z : Str) (dd : D) : D := (((ks.zip ds).find? fun kv => decide (kv.1 = z)).map (·.2)).getD dd
def vGet (ks : List Str) (ts : List TDE) (tw td : TDE) : TDE := fun ρ q => vVals ts ρ fun ds => tw ρ fun w => td ρ fun dd => ∃ z, w = .str z ∧ q (getD' ks ds z dd)
def trsOf (K : PySem.W.Frag) (R : Res) (ks : List Str) (ts : List TDE) : List (TE × TE) := (ks.zip ts).map fun kt => (tC (.str kt.1), tEl K R kt.2)
theorem pairs_ok {K : PySem.W.Frag} {A : Addr} : ∀ (ks : List Str) (ts : List TDE) (σ : L2.St) (ρ : DE) (H : Hp) (q : List D → Prop) (Q : List (V × V) → Hp → Prop), ks.length = ts.length → REnv K (R.add A).av H σ ρ → Pot (R.add A) H → vVals ts ρ q →
    (∀ ds vs H', q ds → RepAll K (R.add A).av H' vs ds → ds.length = ks.length → Ext R.p H H' → Pot (R.add A) H' → Q ((ks.map V.str).zip vs) H') → tPairs (trsOf K R ks ts) σ H Q
  | [], [], σ, ρ, H, q, Q, _, hr, ho, w, f => f [] [] H w .nil rfl (Ext.refl _ _) ho
  | [], _ :: _, _, _, _, _, _, hl, _, _, _, _ => by cases hl
  | _ :: _, [], _, _, _, _, _, hl, _, _, _, _ => by cases hl
  | k :: ks, t :: ts, σ, ρ, H, q, Q, hl, hr, ho, w, f => by
    show tC (.str k) σ H fun x H1 => tEl K R t σ H1 fun y H2 => tPairs (trsOf K R ks ts) σ H2 fun ps H3 => Q ((x, y) :: ps) H3
    refine ⟨A, ρ, _, hr, ho, w, fun d v H1 w1 r1 e1 o1 => ?_⟩
    refine pairs_ok ks ts σ ρ H1 _ _ (by simpa using hl) (hr.mono (R := R.add A) e1) o1 w1 fun ds vs H2 w2 r2 hl2 e2 o2 => ?_
    exact f (d :: ds) (v :: vs) H2 w2 (.cons (r1.mono (R := R.add A) e2) r2) (by simp [hl2]) (e1.trans e2) o2
theorem putK_fresh {kvs : List (Key × V)} {k : Key} {v : V} (h : ∀ kv ∈ kvs, kv.1 ≠ k) : putK kvs k v = kvs ++ [(k, v)] := by
  unfold putK
  have : kvs.any (fun kv => decide (kv.1 = k)) = false := by
    rw [List.any_eq_false]
    intro kv hkv
    simpa using h kv hkv
  simp [this]
theorem merge_nodup : ∀ (more kvs : List (Key × V)), ((kvs ++ more).map (·.1)).Nodup → mergeK kvs more = kvs ++ more
  | [], kvs, _ => by simp [mergeK]
  | kv :: more, kvs, h => by
    have h1 : ∀ x ∈ kvs, x.1 ≠ kv.1 := fun x hx e => by
      rw [List.map_append, List.map_cons] at h
      exact (List.nodup_append.mp h).2.2 x.1 (List.mem_map_of_mem hx) kv.1 List.mem_cons_self e
    show mergeK (putK kvs kv.1 kv.2) more = _
    rw [putK_fresh h1, merge_nodup more (kvs ++ [(kv.1, kv.2)]) (by simpa using h)]
    simp
theorem val_rep {K : PySem.W.Frag} {q : List Addr} {H : Hp} {z : Str} : ∀ (ks : List Str) (vs : List V) (ds : List D), RepAll K q H vs ds → ks.length = ds.length →
    (valV (keysOf ks vs) (.inr z) = none ∧ ((ks.zip ds).find? fun kv => decide (kv.1 = z)) = none) ∨ ∃ v d k, valV (keysOf ks vs) (.inr z) = some v ∧ ((ks.zip ds).find? fun kv => decide (kv.1 = z)) = some (k, d) ∧ Rep K q H v d
  | [], _, _, _, _ => .inl ⟨rfl, rfl⟩
  | k :: ks, _, _, .nil, hl => by cases hl
  | k :: ks, v :: vs, d :: ds, .cons r t, hl => by
    by_cases e : k = z
    · subst e
      refine .inr ⟨v, d, k, ?_, ?_, r⟩
      · simp [valV, keysOf]
      · simp
    · have e' : ¬ (Sum.inr k : Key) = Sum.inr z := fun q => e (Sum.inr.inj q)
      have h1 : valV (keysOf (k :: ks) (v :: vs)) (.inr z) = valV (keysOf ks vs) (.inr z) := by simp [valV, keysOf, e']
      have h2 : (((k :: ks).zip (d :: ds)).find? fun kv => decide (kv.1 = z)) = ((ks.zip ds).find? fun kv => decide (kv.1 = z)) := by simp [e]
      rw [h1, h2]
      exact val_rep ks vs ds t (by simpa using hl)
theorem d_get {keys : List (Option Expr)} {values : List Expr} {e f : Expr} {apos cpos dpos : Pos} {ks : List Str} {ts : List TDE} {tw td : TDE} (hu : X.A.units + 1 < cLine)
    (hp : PPs X dpos keys values (trsOf X.K R ks ts)) (hall : keys.all (·.isSome) = true) (hlk : keys.length = values.length) (h0 : keys ≠ []) (h15 : keys.length ≤ 15) (hks : ks.Nodup) (hkt : ks.length = ts.length) (h15' : ks.length ≤ 15)
    (he : EE X R e tw) (hf : EE X R f td) (m : M2 X (.Dict keys values dpos) "get" apos e f cpos) : EE X R (.Call (.Attribute (.Dict keys values dpos) "get" apos) [e, f] [] cpos) (vGet ks ts tw td) :=
  PE_imp (pe_dget2 hu (pe_disp hp hall hlk h0 h15) he hf m) fun σ H Q ⟨ρ, q, r, o, w, fi⟩ => fun A nA => by
    have rS : REnv X.K (R.add A).av (upd H A (.dK [])) σ ρ := (r.strong nA).mono0 (Ext.new nA)
    have nav := Pot.nin (R := R) o nA
    have oA : Pot (R.add A) (upd H A (.dK [])) := Pot.add (o.new nA) (fun m => nav (List.mem_append_left _ m)) (by rw [upd_same]; exact fun z => nomatch z)
    refine pairs_ok ks ts σ ρ _ _ _ hkt rS oA w fun ds vs H1 w1 r1 hl1 e1 o1 => ?_
    have hA : H1 A = some (.dK []) := e1 A _ (fun mm => nav (List.mem_append_left _ mm)) upd_same
    have eH1 : Ext R.p H H1 := fun b u nb hb => e1 b u nb (by rw [upd_ne (ne_of_none hb nA)]; exact hb)
    have hlv : vs.length = ks.length := by rw [r1.length]; exact hl1
    have hmerge : mergeK [] (keysOf ks vs) = keysOf ks vs := by
      rw [merge_nodup _ _ ?_, List.nil_append]
      rw [List.nil_append]
      have : (keysOf ks vs).map (·.1) = ks.map Sum.inr := by
        unfold keysOf
        rw [List.map_fst_zip (by simp [hlv])]
      rw [this]
      unfold List.Nodup at hks ⊢
      rw [List.pairwise_map]
      exact hks.imp fun h e => h (Sum.inr.inj e)
    refine ⟨hA, keysOf ks vs, ?_, ?_, ?_⟩
    · unfold keysOf
      rw [List.zip_map_left, List.zip_map_left, List.map_map]
      rfl
    · unfold keysOf
      rw [List.length_zip, List.length_map]
      omega
    · rw [hmerge]
      have e2 : Ext R.p H (upd H1 A (.dK (keysOf ks vs))) := fun b u nb hb => by
        rw [upd_ne (ne_of_none hb nA)]
        exact eH1 b u nb hb
      have o2 : Pot R (upd H1 A (.dK (keysOf ks vs))) := Pot.mix o e2 (Pot.of_add o1) (fun b mm => upd_ne (fun e => nav (e ▸ List.mem_append_left _ mm)))
      have r2 : RepAll X.K (R.add A).av (upd H1 A (.dK (keysOf ks vs))) vs ds := RepAll.mono0 (Ext.put Res.add_mem) r1
      refine ⟨A, rfl, .inl ⟨_, .inl upd_same⟩, ρ, _, r.mono e2, o2, w1, fun dw wv H3 w3 r3 e3 o3 => ?_⟩
      refine ⟨ρ, _, r.mono (e2.trans e3), o3, w3, ?_⟩
      rintro dd x H4 ⟨z, rfl, w4⟩ r4 e4 o4
      cases r3
      have e5 : Ext R.p (upd H1 A (.dK (keysOf ks vs))) H4 := e3.trans e4
      have h4 : H4 A = some (.dK (keysOf ks vs)) := e5 A _ (fun mm => nav (List.mem_append_left _ mm)) upd_same
      have r5 : RepAll X.K R.av H4 vs ds := RepAll.mono (R := R) (RepAll.weak (fun b hb => Res.add_av hb) r2) e5
      refine ⟨_, DGet.k (k := .inr z) h4, ?_⟩
      rcases val_rep (z := z) ks vs ds r5 hl1.symm with ⟨q1, q2⟩ | ⟨v, d, k, q1, q2, rv⟩
      · rw [q1]
        refine fi _ _ H4 w4 ?_ ((e2.trans e3).trans e4) o4
        show Rep X.K R.av H4 x (getD' ks ds z dd)
        unfold getD'
        rw [q2]
        exact r4
      · rw [q1]
        refine fi _ _ H4 w4 ?_ ((e2.trans e3).trans e4) o4
        show Rep X.K R.av H4 v (getD' ks ds z dd)
        unfold getD'
        rw [q2]
        exact rv
theorem pe_el {e : Expr} {t : TDE} (h : ∀ A, EE X (R.add A) e t) : PE X e (tEl X.K R t) := ⟨fun pins s σ H Q I ⟨A, w⟩ => (h A).run pins s σ H Q I w⟩
/-! ## constants of the module -/
def GInt (mg : Str → Option Value) (x : Str) (i : Int) : Prop := ∃ t, mg x = some (.int i t)
def GStr (mg : Str → Option Value) (x : Str) (i : Str) : Prop := ∃ t, mg x = some (.str i t)
def GTup (K : PySem.W.Frag) (mg : Str → Option Value) (x : Str) (zs : List Str) : Prop := ∃ (a : Addr) (o : Obj) (its : Array Value) (n : Nat), mg x = some (.ref a) ∧ K.lookup a = some o ∧ o.cls = .type "tuple" ∧ o.data = .seq its n ∧ its.size ≤ sizeLine ∧ Vals (zs.map V.str) its.toList
theorem d_gintT {x : Str} {i : Int} {pos : Pos} (h : GInt X.mg x i) (hg : Gl X x := by rfl) (hd : (x == ("__debug__" : Str)) = false := by decide) : EE X R (.Name x pos) (vC (.int i)) := by
  obtain ⟨t, hm⟩ := h
  exact d_gint hm hg hd
theorem d_gstrT {x : Str} {i : Str} {pos : Pos} (h : GStr X.mg x i) (hg : Gl X x := by rfl) (hd : (x == ("__debug__" : Str)) = false := by decide) : EE X R (.Name x pos) (vC (.str i)) := by
  obtain ⟨t, hm⟩ := h
  exact d_gstr hm hg hd
theorem d_gtupT {x : Str} {zs : List Str} {pos : Pos} (h : GTup X.K X.mg x zs) (hg : Gl X x := by rfl) (hd : (x == ("__debug__" : Str)) = false := by decide) : EE X R (.Name x pos) (vC (.tup (zs.map .str))) := by
  obtain ⟨a, o, its, n, hm, hk, hc, hda, hz, hv⟩ := h
  exact d_gtup hm hk hc hda hz hv hg hd
end
theorem eqD_ty {d : D} {n : String} (h : isObjD d = true) (hn : n ∈ knownTy) : eqD (.ty (kindD d)) (.ty n) = some (decide (kindD d = n)) := by
  show (if kindD d ∈ knownTy ∧ n ∈ knownTy then _ else _) = _
  rw [if_pos ⟨kind_known d h, hn⟩]
theorem neD_ty {d : D} {n : String} (h : isObjD d = true) (hn : n ∈ knownTy) : neD (.ty (kindD d)) (.ty n) = some (!decide (kindD d = n)) := by
  show (if kindD d ∈ knownTy ∧ n ∈ knownTy then _ else _) = _
  rw [if_pos ⟨kind_known d h, hn⟩]
theorem kind_int {d : D} (h : isObjD d = true) (e : kindD d = "int") : ∃ i, d = .int i := by
  cases d <;> first | exact ⟨_, rfl⟩ | (simp [kindD] at e; done) | cases h
theorem kind_bool {d : D} (h : isObjD d = true) (e : kindD d = "bool") : ∃ i, d = .bl i := by
  cases d <;> first | exact ⟨_, rfl⟩ | (simp [kindD] at e; done) | cases h
theorem kind_str {d : D} (h : isObjD d = true) (e : kindD d = "str") : ∃ i, d = .str i := by
  cases d <;> first | exact ⟨_, rfl⟩ | (simp [kindD] at e; done) | cases h
theorem kind_tuple {d : D} (h : isObjD d = true) (e : kindD d = "tuple") : ∃ i, d = .tup i := by
  cases d <;> first | exact ⟨_, rfl⟩ | (simp [kindD] at e; done) | cases h
/-- all([.. for c in x]), the answers g -/
theorem all_lc {i : Nat} {te : TDE} {ρ : DE} {q : D → Prop} {x : Str} {g : Nat → Bool} (hz : x.length ≤ sizeLine) (hel : ∀ c ∈ x.cps.toList, te (ρ.set i (some (.str ⟨#[c]⟩))) fun d => d = .bl (g c)) (h : q (.bl (x.cps.toList.all g))) :
    (x.cps.toList.map fun c => D.str ⟨#[c]⟩).length ≤ sizeLine ∧ ∃ Pj : Nat → D → Prop, (∀ j d, (x.cps.toList.map fun c => D.str ⟨#[c]⟩)[j]? = some d → te (ρ.set i (some d)) (Pj j)) ∧
      ∀ es : List D, es.length = (x.cps.toList.map fun c => D.str ⟨#[c]⟩).length → (∀ (j : Nat) (e : D), es[j]? = some e → Pj j e) → allC [.seq es] q := by
  refine ⟨by rw [List.length_map]; exact hz, fun j d => ∀ c, x.cps.toList[j]? = some c → d = .bl (g c), fun j d hj => ?_, fun es hl hP => ?_⟩
  · rw [List.getElem?_map] at hj
    cases hc : x.cps.toList[j]? with
    | none => rw [hc] at hj; cases hj
    | some c =>
      rw [hc] at hj
      cases hj
      have e : (fun d => ∀ c', x.cps.toList[j]? = some c' → d = D.bl (g c')) = fun d => d = D.bl (g c) := by
        funext d
        apply propext
        constructor
        · exact fun h => h c hc
        · intro h c' e
          rw [hc] at e
          cases e
          exact h
      show te (ρ.set i (some (.str ⟨#[c]⟩))) (fun d => ∀ c', x.cps.toList[j]? = some c' → d = D.bl (g c'))
      rw [e]
      exact hel c (List.mem_of_getElem? hc)
  · refine ⟨_, x.cps.toList.map g, rfl, .inr (congrArg D.seq ?_), by rw [List.all_map]; exact h⟩
    rw [List.length_map] at hl
    rw [List.map_map]
    apply List.ext_getElem?
    intro j
    rw [List.getElem?_map]
    cases he : es[j]? with
    | none =>
      have : es.length ≤ j := List.getElem?_eq_none_iff.mp he
      rw [List.getElem?_eq_none (by omega)]
      rfl
    | some e =>
      have hj : j < es.length := (List.getElem?_eq_some_iff.mp he).1
      have hc : x.cps.toList[j]? = some (x.cps.toList[j]'(by omega)) := List.getElem?_eq_getElem _
      rw [hP j e he _ hc, hc]
      rfl
end Dl

set_option Elab.async false
set_option linter.all false
set_option maxRecDepth 100000
set_option maxHeartbeats 4000000
namespace Dl
open PySem PySem.Spec PyProof.Rows L2
/-! ## how much there is of data: what its operations do to it -/
mutual
/-- the greatest int -/
def D.mx : D → Nat
  | .int i => i.natAbs
  | .tup xs => D.mxs xs
  | .lst xs => D.mxs xs
  | _ => 0
def D.mxs : List D → Nat
  | [] => 0
  | x :: xs => max (D.mx x) (D.mxs xs)
end
theorem plains_append : ∀ a b : List D, D.plains (a ++ b) = (D.plains a && D.plains b)
  | [], b => by simp only [List.nil_append, D.plains, Bool.true_and]
  | x :: a, b => by simp only [List.cons_append, D.plains]; rw [plains_append a b, Bool.and_assoc]
theorem szs_append : ∀ a b : List D, D.szs (a ++ b) = D.szs a + D.szs b
  | [], b => by simp only [List.nil_append, D.szs]; omega
  | x :: a, b => by simp only [List.cons_append, D.szs]; rw [szs_append a b]; omega
theorem dps_append : ∀ a b : List D, D.dps (a ++ b) = max (D.dps a) (D.dps b)
  | [], b => by simp only [List.nil_append, D.dps]; omega
  | x :: a, b => by simp only [List.cons_append, D.dps]; rw [dps_append a b]; omega
theorem mxs_append : ∀ a b : List D, D.mxs (a ++ b) = max (D.mxs a) (D.mxs b)
  | [], b => by simp only [List.nil_append, D.mxs]; omega
  | x :: a, b => by simp only [List.cons_append, D.mxs]; rw [mxs_append a b]; omega
theorem plains_reverse : ∀ a : List D, D.plains a.reverse = D.plains a
  | [] => rfl
  | x :: a => by rw [List.reverse_cons, plains_append, plains_reverse a]; simp only [D.plains, Bool.and_true]; rw [Bool.and_comm]
theorem szs_reverse : ∀ a : List D, D.szs a.reverse = D.szs a
  | [] => rfl
  | x :: a => by rw [List.reverse_cons, szs_append, szs_reverse a]; simp only [D.szs]; omega
theorem dps_reverse : ∀ a : List D, D.dps a.reverse = D.dps a
  | [] => rfl
  | x :: a => by rw [List.reverse_cons, dps_append, dps_reverse a]; simp only [D.dps]; omega
theorem mxs_reverse : ∀ a : List D, D.mxs a.reverse = D.mxs a
  | [] => rfl
  | x :: a => by rw [List.reverse_cons, mxs_append, mxs_reverse a]; simp only [D.mxs]; omega
/-- plain data within bounds: of its size, its depth, its ints -/
structure Bd (s t u : Nat) (d : D) : Prop where
  pl : d.plain = true
  sz : d.sz ≤ s
  dp : d.dp ≤ t
  mx : d.mx ≤ u
theorem Bd.mono {s t u s' t' u' : Nat} {d : D} (h : Bd s t u d) (hs : s ≤ s') (ht : t ≤ t') (hu : u ≤ u') : Bd s' t' u' d := ⟨h.pl, Nat.le_trans h.sz hs, Nat.le_trans h.dp ht, Nat.le_trans h.mx hu⟩
/-- the same of a list's items -/
structure Bds (s t u : Nat) (ds : List D) : Prop where
  pl : D.plains ds = true
  sz : D.szs ds ≤ s
  dp : D.dps ds ≤ t
  mx : D.mxs ds ≤ u
theorem Bds.mono {s t u s' t' u' : Nat} {d : List D} (h : Bds s t u d) (hs : s ≤ s') (ht : t ≤ t') (hu : u ≤ u') : Bds s' t' u' d := ⟨h.pl, Nat.le_trans h.sz hs, Nat.le_trans h.dp ht, Nat.le_trans h.mx hu⟩
theorem Bds.nil {s t u : Nat} : Bds s t u [] := ⟨rfl, Nat.zero_le _, Nat.zero_le _, Nat.zero_le _⟩
theorem Bds.cons {s s1 s2 t u : Nat} {d : D} {ds : List D} (h : Bd s1 t u d) (hs : Bds s2 t u ds) (e : s1 + 1 + s2 ≤ s) : Bds s t u (d :: ds) := by
  refine ⟨?_, ?_, ?_, ?_⟩
  · simp only [D.plains, h.pl, hs.pl, Bool.and_self]
  · have := h.sz; have := hs.sz; simp only [D.szs]; omega
  · have := h.dp; have := hs.dp; simp only [D.dps]; omega
  · have := h.mx; have := hs.mx; simp only [D.mxs]; omega
theorem Bds.append {s1 s2 t u : Nat} {a b : List D} (ha : Bds s1 t u a) (hb : Bds s2 t u b) : Bds (s1 + s2) t u (a ++ b) := by
  refine ⟨by rw [plains_append, ha.pl, hb.pl]; rfl, ?_, ?_, ?_⟩
  · have := ha.sz; have := hb.sz; rw [szs_append]; omega
  · have := ha.dp; have := hb.dp; rw [dps_append]; omega
  · have := ha.mx; have := hb.mx; rw [mxs_append]; omega
theorem Bds.reverse {s t u : Nat} {a : List D} (h : Bds s t u a) : Bds s t u a.reverse := ⟨by rw [plains_reverse]; exact h.pl, by rw [szs_reverse]; exact h.sz, by rw [dps_reverse]; exact h.dp, by rw [mxs_reverse]; exact h.mx⟩
theorem Bds.tup {s t u : Nat} {a : List D} (h : Bds s t u a) : Bd (s + 1) (t + 1) u (.tup a) := by
  refine ⟨by simp only [D.plain]; exact h.pl, ?_, ?_, ?_⟩
  · have := h.sz; simp only [D.sz]; omega
  · have := h.dp; simp only [D.dp]; omega
  · have := h.mx; simp only [D.mx]; omega
theorem Bds.lst {s t u : Nat} {a : List D} (h : Bds s t u a) : Bd (s + 1) (t + 1) u (.lst a) := by
  refine ⟨by simp only [D.plain]; exact h.pl, ?_, ?_, ?_⟩
  · have := h.sz; simp only [D.sz]; omega
  · have := h.dp; simp only [D.dp]; omega
  · have := h.mx; simp only [D.mx]; omega
/-- the parts of a tuple -/
theorem Bd.parts {s t u : Nat} {a : List D} (h : Bd s t u (.tup a)) : Bds (s - 1) (t - 1) u a ∧ 1 ≤ s ∧ 1 ≤ t := by
  have h1 := h.pl; have h2 := h.sz; have h3 := h.dp; have h4 := h.mx
  simp only [D.plain] at h1
  simp only [D.sz] at h2
  simp only [D.dp] at h3
  simp only [D.mx] at h4
  exact ⟨⟨h1, by omega, by omega, by omega⟩, by omega, by omega⟩
theorem Bds.get : ∀ {ds : List D} {s t u k : Nat} {d : D}, Bds s t u ds → ds[k]? = some d → Bd d.sz d.dp d.mx d ∧ d.dp ≤ t ∧ d.mx ≤ u ∧ D.szs (ds.take k) + (d.sz + 1) + D.szs (ds.drop (k + 1)) ≤ s ∧ Bds (D.szs (ds.take k)) t u (ds.take k) ∧ Bds (D.szs (ds.drop (k + 1))) t u (ds.drop (k + 1))
  | [], _, _, _, _, _, _, e => by simp at e
  | x :: ds, s, t, u, 0, d, h, e => by
    have e' : x = d := by simpa using e
    subst e'
    have h1 := h.pl; have h2 := h.sz; have h3 := h.dp; have h4 := h.mx
    simp only [D.plains, Bool.and_eq_true] at h1
    simp only [D.szs] at h2
    simp only [D.dps] at h3
    simp only [D.mxs] at h4
    refine ⟨⟨h1.1, Nat.le_refl _, Nat.le_refl _, Nat.le_refl _⟩, by omega, by omega, ?_, Bds.nil, ?_⟩
    · simp only [List.take_zero, List.drop_succ_cons, List.drop_zero, D.szs]; omega
    · simp only [List.drop_succ_cons, List.drop_zero]; exact ⟨h1.2, Nat.le_refl _, by omega, by omega⟩
  | x :: ds, s, t, u, k + 1, d, h, e => by
    have e' : ds[k]? = some d := by simpa using e
    have h1 := h.pl; have h2 := h.sz; have h3 := h.dp; have h4 := h.mx
    simp only [D.plains, Bool.and_eq_true] at h1
    simp only [D.szs] at h2
    simp only [D.dps] at h3
    simp only [D.mxs] at h4
    obtain ⟨a1, a2, a3, a4, a5, a6⟩ := Bds.get (s := D.szs ds) (t := t) (u := u) ⟨h1.2, Nat.le_refl _, by omega, by omega⟩ e'
    refine ⟨a1, a2, a3, ?_, ?_, ?_⟩
    · simp only [List.take_succ_cons, List.drop_succ_cons, D.szs]; omega
    · simp only [List.take_succ_cons]
      refine Bds.cons (s1 := x.sz) ⟨h1.1, Nat.le_refl _, by omega, by omega⟩ a5 ?_
      simp only [D.szs]; omega
    · simp only [List.drop_succ_cons]; exact a6
theorem Bd.non {s t u : Nat} (h : 1 ≤ s) : Bd s t u .non := ⟨rfl, h, Nat.zero_le _, Nat.zero_le _⟩
theorem Bd.bl {s t u : Nat} {b : Bool} (h : 1 ≤ s) : Bd s t u (.bl b) := ⟨rfl, h, Nat.zero_le _, Nat.zero_le _⟩
theorem Bd.int {s t u : Nat} {i : Int} (h : 1 ≤ s) (hi : i.natAbs ≤ u) (hu : u < 10 ^ 12) : Bd s t u (.int i) := ⟨by simp only [D.plain, decide_eq_true_eq]; omega, h, Nat.zero_le _, hi⟩
theorem Bd.emp {s t u : Nat} (h : 1 ≤ s) (ht : 1 ≤ t) : Bd s t u .emp := ⟨rfl, h, ht, Nat.zero_le _⟩
def asc (x : Str) : Prop := ∀ c ∈ x.cps.toList, c < 128
theorem Bd.str {s t u : Nat} {x : Str} (h : x.length + 1 ≤ s) (ha : asc x) : Bd s t u (.str x) := ⟨by simp only [D.plain, List.all_eq_true, decide_eq_true_eq]; exact ha, h, Nat.zero_le _, Nat.zero_le _⟩
theorem Bd.asc {s t u : Nat} {x : Str} (h : Bd s t u (.str x)) : asc x := by
  have := h.pl
  simp only [D.plain, List.all_eq_true, decide_eq_true_eq] at this
  exact this
theorem Bd.len {s t u : Nat} {x : Str} (h : Bd s t u (.str x)) : x.length + 1 ≤ s := h.sz
theorem asc_append {x y : Str} (hx : asc x) (hy : asc y) : asc (x ++ y) := fun c hc => by
  have e : (x ++ y).cps.toList = x.cps.toList ++ y.cps.toList := by show (x.cps ++ y.cps).toList = _; simp
  rw [e] at hc
  rcases List.mem_append.mp hc with h | h
  · exact hx c h
  · exact hy c h
theorem asc_cut {x : Str} (hx : asc x) (lo hi : Option Int) : asc (cutS x lo hi) := fun c hc => by
  have hc' : c ∈ (x.cps.toList.drop (HT.sIx x.length 0 lo)).take (HT.sIx x.length x.length hi - HT.sIx x.length 0 lo) := by simpa [cutS] using hc
  exact hx c (List.mem_of_mem_drop (List.mem_of_mem_take hc'))
theorem asc_upper {x : Str} (hx : asc x) : asc (Txt.upper x) ∧ (Txt.upper x).length = x.length := by
  have e := PyProof.Rows.upper_ascii hx
  rw [e]
  refine ⟨fun c hc => ?_, by show (x.cps.map up1).size = x.cps.size; simp⟩
  have hc' : c ∈ x.cps.toList.map up1 := by simpa using hc
  obtain ⟨a, ha, rfl⟩ := List.mem_map.mp hc'
  have := hx a ha
  unfold up1
  split <;> omega
theorem asc_one {c : Nat} (h : c < 128) : asc ⟨#[c]⟩ := fun d hd => by
  have : d = c := by simpa using hd
  omega
/-- an item at a drawn place -/
theorem atI_mem {ds : List D} {k : Int} (h0 : 0 ≤ k) (h1 : k < ds.length) : ∃ d, atI ds k = some d ∧ d ∈ ds := by
  obtain ⟨n, rfl⟩ : ∃ n : Nat, k = (n : Int) := ⟨k.toNat, by omega⟩
  have hn : n < ds.length := by omega
  exact ⟨ds[n], atI_nat (List.getElem?_eq_getElem hn), List.getElem_mem hn⟩
theorem atI_place {α : Type} {ds : List α} {k : Int} (h0 : 0 ≤ k) (h1 : k < ds.length) : ∃ (n : Nat) (d : α), k = (n : Int) ∧ n < ds.length ∧ atI ds k = some d ∧ ds[n]? = some d := by
  obtain ⟨n, rfl⟩ : ∃ n : Nat, k = (n : Int) := ⟨k.toNat, by omega⟩
  have hn : n < ds.length := by omega
  exact ⟨n, ds[n], rfl, hn, atI_nat (List.getElem?_eq_getElem hn), List.getElem?_eq_getElem hn⟩
theorem cutD_to (ds : List D) (n : Nat) : Dl.cutD ds none (some (n : Int)) = ds.take n := by
  show (ds.drop 0).take (HT.sIx ds.length ds.length (some (n : Int)) - 0) = _
  rw [HT.sIx_nat, List.drop_zero, Nat.sub_zero]
  by_cases h : n ≤ ds.length
  · rw [Nat.min_eq_left h]
  · rw [Nat.min_eq_right (by omega), List.take_of_length_le (Nat.le_refl _), List.take_of_length_le (by omega)]
theorem cutD_from (ds : List D) (n : Nat) : Dl.cutD ds (some (n : Int)) none = ds.drop n := by
  show (ds.drop (HT.sIx ds.length 0 (some (n : Int)))).take (ds.length - HT.sIx ds.length 0 (some (n : Int))) = _
  rw [HT.sIx_nat]
  by_cases h : n ≤ ds.length
  · rw [Nat.min_eq_left h, List.take_of_length_le (by rw [List.length_drop]; exact Nat.le_refl _)]
  · rw [Nat.min_eq_right (by omega), List.drop_of_length_le (Nat.le_refl _), List.drop_of_length_le (l := ds) (by omega)]
    simp
end Dl

set_option Elab.async false
set_option linter.all false
set_option maxRecDepth 100000
set_option maxHeartbeats 4000000
namespace Dl
open PySem PySem.Spec PyProof.Rows L2
/-! ## the script: a list of ints that nothing changes -/
def ScrAt (K : PySem.W.Frag) (a : Addr) (ns : List Int) (R : Res) : Prop := ∀ H, R.S H → SqL K H a (ns.map V.int)
theorem ScrAt.add {K : PySem.W.Frag} {a A : Addr} {ns : List Int} {R : Res} (h : ScrAt K a ns R) : ScrAt K a ns (R.add A) := fun H s => h H (Pot.of_add s)
/-- the one list at a -/
def Res.scr (a : Addr) (xs : List V) : Res where
  p := []
  n := [a]
  Sp := fun _ => True
  Ss := fun H => Rd H a (.lst xs)
  nin := fun H b _ s n m => by
    have e : b = a := by simpa using m
    subst e
    rcases s with s | ⟨o, s⟩ <;> (rw [n] at s; cases s)
  dep := fun _ _ _ _ => trivial
  mono := fun H H' k s => by
    rcases s with s | ⟨o, s⟩
    · exact .inl (k _ _ (by simp) s)
    · exact .inr ⟨o, k _ _ (by simp) s⟩
theorem scr_ex {K : PySem.W.Frag} {H : Hp} {a : Addr} {ns : List Int} (h : SqL K H a (ns.map V.int)) : ∃ R : Res, R.p = [] ∧ R.S H ∧ ScrAt K a ns R := by
  rcases h with h | h
  · exact ⟨Res.scr a (ns.map V.int), rfl, ⟨trivial, h⟩, fun H s => .inl s.2⟩
  · exact ⟨Res.none, rfl, ⟨trivial, trivial⟩, fun H s => .inr h⟩
section
variable {X : Cx} {R : Res} {pos : Pos} {a : Addr} {ns : List Int}
def lenS (a : Addr) (ns : List Int) : DCall := fun ds q => ds = [.ptr a] ∧ q (.int ns.length)
theorem cd_lenS (S : ScrAt X.K a ns R) : CallD X.K R (fun xs H Q => ∃ x n, xs = [x] ∧ LenV X.K x H n ∧ Q (.int n) H) (lenS a ns) := by
  rintro xs ds H q Q r o ⟨rfl, w⟩ f
  obtain ⟨x, rfl, rx⟩ := r.one
  cases rx
  refine ⟨_, ns.length, rfl, .inl ⟨_, S H o, by rw [List.length_map]⟩, f _ _ H w (.int _) (Ext.refl _ _) o⟩
def ixS (a : Addr) (ns : List Int) : DOp := fun dx dy q => dx = .ptr a ∧ ∃ i, dy = .int i ∧ 0 ≤ i ∧ i < ns.length ∧ ∀ z : Int, q (.int z)
theorem opd_ixS (S : ScrAt X.K a ns R) : OpD X.K R (rIx X.K) (ixS a ns) := by
  rintro x y dx dy H q Q rx ry o ⟨rfl, i, rfl, i0, i1, w⟩ f
  cases rx; cases ry
  obtain ⟨n, z, rfl, hn, h1, h2⟩ := atI_place i0 i1
  refine .inl ⟨a, ns.map V.int, (n : Int), .int z, rfl, rfl, S H o, atI_nat (by rw [List.getElem?_map, h2]; rfl), f _ _ H (w z) (.int _) (Ext.refl _ _) o⟩
theorem d_ixS {e b : Expr} {te tb : TDE} (S : ScrAt X.K a ns R) (ha : EE X R e te) (hb : EE X R b tb) (hs : PlainIx b := by intro _ _; rfl) : EE X R (.Subscript e b pos) (vOp (ixS a ns) te tb) := PE_imp (pe_ix ix_seq ha hb hs) (tOp_of (opd_ixS S))
theorem rep_ints {K : PySem.W.Frag} {p : List Addr} {H : Hp} : ∀ zs : List Int, RepAll K p H (zs.map V.int) (zs.map D.int)
  | [] => .nil
  | z :: zs => .cons (.int z) (rep_ints zs)
def vSlS (a : Addr) (t : TDE) (tl th : TDO) : TDE := fun ρ q => t ρ fun dx => tl ρ fun lo => th ρ fun hi => dx = .ptr a ∧ ∀ zs : List Int, zs.length ≤ 16777216 → q (.seq (zs.map .int))
theorem d_sliceS {e : Expr} {lo hi : Option Expr} {t : TDE} {tl th : TDO} {p2 : Pos} (S : ScrAt X.K a ns R) (hns : ns.length ≤ 16777216) (he : EE X R e t) (hl : PO X lo (tDO X.K R tl)) (hu : PO X hi (tDO X.K R th)) : EE X R (.Subscript e (.Slice lo hi none p2) pos) (vSlS a t tl th) :=
  PE_imp (pe_slice slr_any he hl hu) fun σ H Q ⟨ρ, q, hr, ho, w, f⟩ => by
    refine ⟨ρ, _, hr, ho, w, fun dx x H1 w1 r1 e1 o1 => ?_⟩
    refine ⟨ρ, _, hr.mono e1, o1, w1, fun l H2 w2 e2 o2 => ?_⟩
    refine ⟨ρ, _, hr.mono (e1.trans e2), o2, w2, fun u H3 w3 e3 o3 => ?_⟩
    obtain ⟨rfl, w4⟩ := w3
    cases r1
    refine .inr (.inl ⟨a, _, rfl, S H3 o3, fun A n => ?_⟩)
    have e : cutV (ns.map V.int) l u = ((ns.drop (HT.sIx ns.length 0 l)).take (HT.sIx ns.length ns.length u - HT.sIx ns.length 0 l)).map V.int := by
      unfold cutV
      rw [List.length_map, List.map_take, List.map_drop]
    rw [e]
    refine f _ _ _ (w4 _ ?_) (new_seq (rep_ints _) n o3) (((e1.trans e2).trans e3).trans (Ext.new n)) (o3.new n)
    rw [List.length_take, List.length_drop]
    omega
/-! ## a pot, made and handed on -/
/-- makes a pot of an int -/
def spPot : Sp := fun vs H Q _ => ∃ c : Int, vs = [.int c] ∧ ∀ (a : Addr) (x y z : Int), H a = none → Q (.ref a) (upd H a (.lst [.int x, .int y, .int z]))
/-- whatever pot it is handed: true -/
def spAnyPot (K : PySem.W.Frag) (Fd : Addr → DCall) : Sp := fun vs H Q E => ∃ a, spD K (Res.pot a) (Fd a) vs H Q E
theorem fn_anyPot {P : Program} {w : World} {K : PySem.W.Frag} {mg : Str → Option Value} {base : Heap} {k : Nat} {f : Addr} {fd : FuncData} {ps : List Str} {Fd : Addr → DCall} (h : ∀ a, FnG P w K mg base k f fd ps (spD K (Res.pot a) (Fd a))) : FnG P w K mg base k f fd ps (spAnyPot K Fd) :=
  ⟨fun vs H Q E ⟨a, q⟩ => (h a).len vs H Q E q, fun A outer s H args us vs Q E hr hg he hb r ⟨a, q⟩ => (h a).run A outer s H args us vs Q E hr hg he hb r q⟩
/-- f(g(e)): g makes a pot, f draws from it and answers an int, a bool -/
def vOnPot (ans : D) (te : TDE) : TDE := fun ρ q => te ρ fun d => ∃ c, d = .int c ∧ q ans
theorem d_onPot {k j : Nat} {x y : Str} {p1 p2 p3 : Pos} {e : Expr} {te : TDE} {ans : D} {va : V} (hans : ∀ H p, Rep X.K p H va ans) (hinv : ∀ H p v, Rep X.K p H v ans → v = va) (F : Def X.prog X.w X.K X.mg X.base x k (spAnyPot X.K fun a ds q => ds = [.ptr a] ∧ q ans)) (G : Def X.prog X.w X.K X.mg X.base y j spPot) (hr : Room k X.A) (hr' : Room j X.A) (hgd : X.A.guards = some []) (he : EE X R e te)
    (hgx : Gl X x := by rfl) (hgy : Gl X y := by rfl) (hdx : (x == ("__debug__" : Str)) = false := by decide) (hdy : (y == ("__debug__" : Str)) = false := by decide)
    (hs1 : starEach [.Call (.Name y p2) [e] [] p3] X.env = (false, eval (.Call (.Name y p2) [e] [] p3) X.env) :: starEach [] X.env := by rfl) (hpl1 : (backTo pos (starEach [] X.env)).any (·.1) = false := by rfl)
    (hs2 : starEach [e] X.env = (false, eval e X.env) :: starEach [] X.env := by rfl) (hpl2 : (backTo p3 (starEach [] X.env)).any (·.1) = false := by rfl) :
    EE X R (.Call (.Name x p1) [.Call (.Name y p2) [e] [] p3] [] pos) (vOnPot ans te) := by
  obtain ⟨fa, fda, psa, Fa, hma, hka, hba⟩ := F.ex
  obtain ⟨fb, fdb, psb, Fb, hmb, hkb, hbb⟩ := G.ex
  have hin := pe_callG (pos := p3) (p := p2) Fb hr' hgd hgy hmb hkb hbb (pa_cons he pa_nil hs2) hdy hs2 hpl2
  refine PE_imp (pe_callG (pos := pos) (p := p1) Fa hr hgd hgx hma hka hba (pa_cons hin pa_nil hs1) hdx hs1 hpl1) ?_
  rintro σ H Q ⟨ρ, q, r, o, w, f⟩
  refine ⟨ρ, _, r, o, w, ?_⟩
  rintro d v H1 ⟨c, rfl, w1⟩ r1 e1 o1
  cases r1
  refine ⟨c, rfl, fun a x y z n => ?_⟩
  refine ⟨a, [.ptr a], fun d => d = ans, .cons (.ptr a) .nil, ⟨⟨x, y, z, upd_same⟩, trivial⟩, ⟨rfl, rfl⟩, ?_⟩
  rintro d v H' rfl rv e2 o2
  have := hinv _ _ _ rv
  subst this
  have keep : ∀ b u, H1 b = some u → H' b = some u := fun b u hb => e2 b u (by
    show b ∉ [a]
    simp
    exact ne_of_none hb n) (by rw [upd_ne (ne_of_none hb n)]; exact hb)
  have eH : Ext R.p H1 H' := fun b u nb hb => keep b u hb
  refine f d v H' w1 (hans _ _) (e1.trans eH) (Pot.mix o1 eH o1 fun b m => ?_)
  cases hb : H1 b with
  | none => exact absurd (List.mem_append_left _ m) (Pot.nin (R := R) o1 hb)
  | some u => exact keep b u hb
end
end Dl

set_option Elab.async false
set_option linter.all false
set_option maxRecDepth 100000
set_option maxHeartbeats 4000000
namespace Dl
open PySem PySem.Spec PyProof.Rows L2
/-! ## a law whose def keeps its promise where nothing is being shown -/
/-- the heap that tracks the script alone, unless it is the module's own -/
def scrHp (K : PySem.W.Frag) (a : Addr) (o : Obj) (xs : List V) : Hp := fun b => if b = a ∧ K.lookup a = none then some (.frz o (.lst xs)) else none
theorem scrHp_some {K : PySem.W.Frag} {a b : Addr} {o : Obj} {xs : List V} {u : HO} (h : scrHp K a o xs b = some u) : b = a ∧ K.lookup a = none ∧ u = .frz o (.lst xs) := by
  unfold scrHp at h
  split at h
  · rename_i c
    cases h
    exact ⟨c.1, c.2, rfl⟩
  · cases h
theorem scrHp_none {K : PySem.W.Frag} {a b : Addr} {o : Obj} {xs : List V} (h : ¬ (b = a ∧ K.lookup a = none)) : scrHp K a o xs b = none := if_neg h
def spTop (K : PySem.W.Frag) (n : Nat) : Sp := fun vs H Q _ => ∃ (a : Addr) (ns : List Int), vs = [.ref a] ∧ SqL K H a (ns.map V.int) ∧ ns.length ≤ n ∧ ∀ H', Q (.bl true) H'
theorem law_callG {P : Program} {w : World} {K : PySem.W.Frag} {mg mb : Str → Option Value} {k n : Nat} {fa a : Addr} {fd : FuncData} {x : Str} {s₁ : Shared} {vs : List Value} {ns : List Int}
    (KX : K.In s₁.heap) (hns : s₁.heap.Ns mainGlobals mg) (hb : s₁.heap.Ns builtinsNs mb) (hbb : ∀ x : Str, x ≠ "__name__" → mb x = bootBuiltins x) (hlim : s₁.heap.NoLimit) (hg : s₁.gens = #[])
    (ha : s₁.heap.get? a = some { cls := .type "list", data := .seq vs.toArray }) (hi : IntsAre vs ns) (hl : ns.length ≤ sizeLine) (hn : ns.length ≤ n) (hr : Room k callerA)
    (F : ∀ base : Heap, K.In base → base.Ns mainGlobals mg → FnG P w K mg base k fa fd [x] (spTop K n)) (hbind : ∀ (s : Shared) (u : Value), BindsTo s fd ⟨[u], []⟩ [(x, u)]) :
    codeAny (model P w) callerA (.call (.ref fa) ⟨[.ref a], []⟩) (fun r s' => r = .ok (.ret (.bool true)) ∧ OldK s₁.heap s'.heap ∧ s'.os = s₁.os ∧ AllBare s'.gens) s₁ := by
  have rv := vals_ints hi
  have hlv := hi.length
  generalize ho : ({ cls := .type "list", data := .seq vs.toArray } : Obj) = o at ha
  let H : Hp := scrHp K a o (ns.map V.int)
  have only : ∀ {b : Addr} {u : HO}, H b = some u → b = a ∧ K.lookup a = none ∧ u = .frz o (.lst (ns.map V.int)) := fun e => scrHp_some e
  have free : ∀ {b : Addr}, b ≠ a → H b = none := fun hb => scrHp_none fun e => hb e.1
  have script : SqL K H a (ns.map V.int) := by
    cases q : K.lookup a with
    | none => exact .inl (.inr ⟨o, if_pos ⟨rfl, q⟩⟩)
    | some o' =>
      have e := KX a o' q
      rw [ha] at e
      cases e
      subst ho
      exact .inr ⟨_, vs.toArray, _, q, rfl, rfl, rfl, by rw [List.size_toArray, hlv]; exact hl, by simpa using rv⟩
  have hok : HOk P w H s₁.heap := fun b u e => by
    obtain ⟨rfl, _, rfl⟩ := only e
    subst ho
    exact ⟨ha, by rw [List.length_map]; exact hl, vs, _, rv, ha⟩
  have kept : ∀ {b : Addr} {u : Obj}, s₁.heap.get? b = some u → H b = none → (hidT s₁.heap H).get? b = some u := fun e q => hidT_get e q
  have dicts : ∀ {b : Addr} {m : Str → Option Value}, s₁.heap.Ns b m → (hidT s₁.heap H).Ns b m := fun {b m} ⟨u, es, ep, e, d, r⟩ => by
    have hb : b ≠ a := fun q => by
      subst q
      rw [ha] at e
      cases e
      subst ho
      have d' : Data.seq vs.toArray _ = Data.dict es ep := d
      cases d'
    exact ⟨u, es, ep, kept e (free hb), d, r⟩
  have inK : K.In (hidT s₁.heap H) := fun b u e => kept (KX b u e) (by
    cases q : H b with
    | none => rfl
    | some t =>
      obtain ⟨rfl, h2, _⟩ := only q
      rw [h2] at e
      cases e)
  have hM : Mod K mg (hidT s₁.heap H) := ⟨inK, dicts hns, ⟨mb, dicts hb, hbb⟩, let ⟨mc, h1, h2⟩ := hlim; ⟨mc, dicts h1, h2⟩⟩
  have e0 : Env0 P w K mg (hidT s₁.heap H) callerA [] s₁ H := ⟨rfl, hM, fun b u e => of_hidT e, Nat.le_of_eq (hidT_size _ _), trivial, fun b m => absurd (show b ∈ ([] : List Addr) from m) (by simp), hok, .of_eq hg⟩
  have go := (F _ inK (dicts hns)).run callerA [] s₁ H ⟨[.ref a], []⟩ [.ref a] [.ref a] (fun v _ => v = .bl true) (fun _ _ _ => False) hr rfl e0 (hbind s₁ (.ref a)) (.cons rfl .nil) ⟨a, ns, rfl, script, hn, fun _ => rfl⟩
  refine codeAny_mono go fun r s' h => ?_
  cases r with
  | error e => exact h.elim
  | ok fl =>
    cases fl with
    | next => exact False.elim h
    | brk => exact False.elim h
    | cont => exact False.elim h
    | ret u =>
      obtain ⟨v, H', os, bare, un, hok', rvl, q⟩ := h
      have q' : v = .bl true := q
      subst q'
      obtain rfl : u = Value.bool true := rvl
      refine ⟨rfl, OldK.of_keep fun b ob e => ?_, os, bare⟩
      cases q : H b with
      | none => exact un.keep b ob e q (fun m => absurd (show b ∈ ([] : List Addr) from m) (by simp)) (by simp)
      | some t =>
        obtain ⟨rfl, _, rfl⟩ := only q
        have after := un.frzs b o _ q
        obtain ⟨h2, _⟩ := hok' b _ after
        rw [ha] at e
        cases e
        exact h2
/-- the end: a law over a head by facts -/
theorem walk_G {l : PySem.W.OpenLaw} {n k : Nat} {q : Program} {loose : List Str} {XP : (Str → Option Value) → Heap → Prop} {YP : World → Heap → Prop} {d : DefRec} {x : Str}
    (hn : l.most = some n) (hn2 : n ≤ sizeLine) (hdf : d.params.defaults = []) (hr : Room k callerA)
    (F : ∀ (w : World) (mg : Str → Option Value) (fa : Addr) (h : Heap), YP w h → h.Ns mainGlobals mg → mg d.name = some (.ref fa) →
      ∃ (K : PySem.W.Frag) (fd : FuncData), K.In h ∧ (∀ (s : Shared) (u : Value), BindsTo s fd ⟨[u], []⟩ [(x, u)]) ∧
        ∀ base : Heap, K.In base → base.Ns mainGlobals mg → FnG l.prog w K mg base k fa fd [x] (spTop K n)) :
    PySem.W.WalkO q loose XP YP l.row.toRowW d [] (fun f vs => PySem.call f vs) := by
  refine Att.attach_call hn hdf fun w s₀ s₁ mg mb fa o pm cd doc a vs ns G Y ho hd hcd hmg hobj hints hlen hg => ?_
  obtain ⟨K, fd, KX, hb, hF⟩ := F w mg fa _ Y G.T.g hmg
  exact law_callG KX G.T.g G.T.b G.T.builtins G.T.nolimit hg hobj hints (Nat.le_trans hlen hn2) hlen hr hF hb
/-! ## a def, a dict behind the top -/
theorem fun_ofD {K : PySem.W.Frag} {x : Str} {st : Stmt} {f : Addr} {fd : FuncData} (F : FunD K x x (defArgs st) (defBody st) (defScope st) [] [] f fd) : Fun K x x st f fd := by
  obtain ⟨oc, od, dV, kV, doc, pm, an, cdv, ct, osl, e, lk, hc, hd, _⟩ := F.ex
  rcases hd with ⟨_, hd⟩ | ⟨hd, _⟩
  · subst hd
    exact ⟨⟨oc, od, kV, doc, pm, an, cdv, ct, osl, e, lk, hc⟩, F.kp⟩
  · exact absurd rfl hd
theorem nsIn_none {K : PySem.W.Frag} {P : Params} {a : Addr} {ks : List Str} {z : Str} (h : He.dicW K a = some (He.keysIn P ks)) (hz : z ∉ ks) : PySem.W.nsIn K a z = some none := by
  unfold He.dicW at h
  unfold PySem.W.nsIn
  cases q : K.lookup a with
  | none => rw [q] at h; cases h
  | some o =>
    obtain ⟨oc, od, dt, osl⟩ := o
    rw [q] at h
    cases oc with
    | type c =>
      cases od with
      | none =>
        cases dt with
        | dict es n =>
          have h1 : (match decide (c = "dict") && (osl.isEmpty && !(a == sysModules)) with
            | true => some (es.toList.map He.keyOf)
            | false => none) = some (He.keysIn P ks) := h
          split at h1
          · have h2 : es.toList.map He.keyOf = He.keysIn P ks := Option.some.inj h1
            have key : ∀ e ∈ es.toList, ∃ x t, e.key = .str x t ∧ x ∈ ks := fun e he => by
              have m : He.keyOf e ∈ He.keysIn P ks := by rw [← h2]; exact List.mem_map_of_mem he
              obtain ⟨x, hx, e1⟩ := List.mem_map.mp m
              unfold He.keyOf at e1
              split at e1
              · rename_i y t e2
                have := (Prod.mk.inj (Option.some.inj e1)).1
                subst this
                exact ⟨_, t, e2, hx⟩
              · cases e1
            have f1 : es.toList.find? (·.key.isStr z) = none := by
              rw [List.find?_eq_none]
              intro e he hs
              obtain ⟨x, t, e2, hx⟩ := key e he
              rw [e2] at hs
              have : x = z := by simpa [Value.isStr] using hs
              exact hz (this ▸ hx)
            have f2 : es.toList.any (·.refKey) = false := by
              rw [List.any_eq_false]
              intro e he hs
              obtain ⟨x, t, e2, hx⟩ := key e he
              simp [DictEntry.refKey, e2] at hs
            show (match es.toList.find? (·.key.isStr z) with
              | some e => some (some e.val)
              | none => if es.toList.any (·.refKey) then none else some none) = some none
            rw [f1, f2]
            rfl
          · cases h1
        | _ => cases h
      | some b => cases dt <;> cases h
    | _ => cases od <;> cases dt <;> cases h
end Dl

set_option Elab.async false
set_option linter.all false
set_option maxRecDepth 100000
set_option maxHeartbeats 4000000
namespace Dl
open PySem PySem.Spec PyProof.Rows L2
/-! ## try: .. except (A, B, C) as n: .. -/
theorem fly_keeps {B h h' : Heap} {l : List Env} {a : Addr} {Z : Obj → Prop} (fl : HandSPX.FlyingZ B l a Z h) (k : ∀ b o, h.get? b = some o → h'.get? b = some o) : HandSPX.FlyingZ B l a Z h' := by
  obtain ⟨f1, f2, f3, oe, vs, T, oT, ts, g1, g2, g3, g4, g5, g6, g7, g8, g9⟩ := fl
  exact ⟨fun b o e => k b o (f1 b o e), f2, f3.of_keeps fun b o e _ => ⟨o, k b o e, rfl⟩, oe, vs, T, oT, ts, k _ _ g1, g2, g3, g4, g5, g6, k _ _ g7, g8, g9⟩
/-- what such a clause wishes of an exception: slot i is n's -/
def wAs3 (K : PySem.W.Frag) (cs : List Value) (i : Nat) (ts : Addr → Value → Option Addr → TS) (Wout : WX) (D : Ends) : WX := fun cls d σ H =>
  ∃ b, PySem.W.exmAny K cls cs = some b ∧
    (b = true → ∀ a, H a = none → ts a cls d { nx := fun σ' H' => D.nx (σ'.set i none) H', rt := D.rt, bk := fun σ' H' => D.bk (σ'.set i none) H', ct := fun σ' H' => D.ct (σ'.set i none) H' } (σ.set i (some (.ref a))) H) ∧ (b = false → Wout cls d σ H)
section
variable {X : Cx} {n : Str} {i : Nat} {body suite : List Stmt} {b₀ : Stmt} {pos pos' : Pos} {tb : WX → TS} {ts : Addr → Value → Option Addr → TS} {Wout : WX}
theorem ld_names {Y : Cx} {pins : List (Addr × Obj)} {σ : L2.St} {H : Hp} {s : Shared} {x : Str} {c : Value} {np : Pos} {Q : Value → Shared → Prop} {E : Value → Shared → Prop} (S : Inv Y pins σ H s) (hc : Names Y x c) (q : Q c s) : wpAny (model Y.prog Y.w) Y.A (eval (.Name x np) Y.env) Q E s := by
  obtain ⟨hg, hdb, hm | ⟨hm, hv, hn⟩⟩ := hc
  · exact ld_glob S hg hm q hdb
  · exact ld_blt S hg hm hv q hn hdb
theorem ps_try_as3 {x1 x2 x3 : Str} {c1 c2 c3 : Value} {p1 p2 p3 tp : Pos} {kt : Nat} (hs : X.stack = X.env :: X.outer) (hf : X.env.frame = some X.env.locals) (hN : X.N.Nodup) (hi : X.N[i]? = some n) (hln : X.env.kindOf n = some .local) (hc1 : Names X x1 c1) (hc2 : Names X x2 c2) (hc3 : Names X x3 c3) (tk : Takes X Wout)
    (hb : ∀ (W : WX) (pn : List (Addr × Obj)) (xe : Value → Shared → Prop), Takes (X.tr pn xe) W → PassesOwn (model X.prog X.w) X.A X.env xe → PSs (X.tr pn xe) body (tb W))
    (hsu : ∀ (a : Addr) (oe : Obj) (cls : Value) (d : Option Addr) (pn : List (Addr × Obj)), Zc cls d oe → (∃ vs, oe.data = .fields vs) → PSs (X.suite a ((a, oe) :: pn)) (b₀ :: suite) (ts a cls d)) :
    PS X (.Try body [.ExceptHandler (some (.Tuple [.Name x1 p1, .Name x2 p2, .Name x3 p3] kt tp)) (some n) (b₀ :: suite) pos'] [] [] pos) (fun D σ H => tb (wAs3 X.K [c1, c2, c3] i ts Wout D) D σ H) := by
  refine ⟨fun pins s σ H D I h => ?_⟩
  have ok := I.ok
  have frames : X.A.frames = some (X.env :: X.outer) := by rw [ok.frames, hs]
  refine wpAny_Try_except ?_
  refine wpAny_mono ((hb (wAs3 X.K [c1, c2, c3] i ts Wout D) (X.pn ++ pins) (fun e s₁ => wpAny (model X.prog X.w) X.A (noteFrame e X.env) (fun _ s₂ => wpAny (model X.prog X.w) X.A (setFlight e none) (fun _ s₃ =>
    wpAny (model X.prog X.w) X.A (handleBy e X.env [.ExceptHandler (some (.Tuple [.Name x1 p1, .Name x2 p2, .Name x3 p3] kt tp)) (some n) (b₀ :: suite) pos']) (SP X pins D) X.xe s₃) X.xe s₂) X.xe s₁) (fun u s' xx => ?_) PassesOwn.looking).run [] s σ H D (I.toTry _) h) (fun f s1 hsp => ?_) (fun e s1 he => he)
  · obtain ⟨a, B, sI, pins', σ', H', cls, d, rfl, J', nb, up, sky, na, os, ag, b, hb1, hyes, hno⟩ := xx
    have J : Inv X pins σ' H' sI := J'.ofTry ok
    have sky' : Sky B (X.env :: X.outer) a (Zc cls d) X.env.locals s'.heap := by rw [← hs]; exact sky
    show wpAny (model X.prog X.w) X.A (noteFrame (.ref a) X.env) _ _ _
    refine Sky.land Zc.steady frames hf sky' fun h3 fl3 up3 => ?_
    have J3 : Inv X pins σ' H' { s' with heap := h3 } := J.landed nb fl3.1 (up.trans up3) os ag
    obtain ⟨oe3, vs3, he3, hz3, hd3⟩ := fl3.there
    have out : a ∉ frs (X.env :: X.outer) := fun hm => by
      obtain ⟨_, o', e', hnf⟩ := fl3.2.2.1.mem hm
      rw [he3] at e'; cases e'
      exact hnf _ hd3
    have nL : a ≠ X.env.locals := fun z => out (List.mem_filterMap.mpr ⟨X.env, List.mem_cons_self, by rw [hf, z]⟩)
    have nF : a ∉ X.fs := fun hm => by
      obtain ⟨e, he, q⟩ := List.mem_filterMap.mp hm
      exact out (List.mem_filterMap.mpr ⟨e, List.mem_cons_of_mem _ he, q⟩)
    have S3 := J3.suite he3 hd3 na nL nF
    refine wpAny_handleBy_cons (codeAny_handlers_test ?_) (by intro q; cases q)
    -- the tuple of the classes
    let h5 : Heap := h3.push { cls := .type "tuple", data := .seq [c1, c2, c3].toArray }
    have k5 : ∀ b o, h3.get? b = some o → h5.get? b = some o := fun b o e => Heap.get?_push_of_some _ e
    have test : ∀ {Q : Value → Shared → Prop} {E : Value → Shared → Prop}, Q (.ref h3.objs.size) { s' with heap := h5 } → wpAny (model X.prog X.w) (X.A.mark (some (.ref a))) (eval (.Tuple [.Name x1 p1, .Name x2 p2, .Name x3 p3] kt tp) X.env) Q E { s' with heap := h3 } := fun {Q E} q => by
      refine wpAny_Tuple_spliced ?_
      refine Calls.spliced_cons (ld_names (Y := X.suite a ((a, oe3) :: (X.pn ++ pins))) S3 hc1 ?_)
      refine Calls.spliced_cons (ld_names (Y := X.suite a ((a, oe3) :: (X.pn ++ pins))) S3 hc2 ?_)
      refine Calls.spliced_cons (ld_names (Y := X.suite a ((a, oe3) :: (X.pn ++ pins))) S3 hc3 ?_)
      refine Calls.spliced_nil ?_
      exact ⟨by rw [sizeLine_eq]; exact (by decide : (3 : Nat) ≤ 16777216), q⟩
    have LT : PySem.W.Looks (model X.prog X.w) h5 (typeOf (.ref a)) cls := fun A Q E s k q => wpAny_typeOf_ref (k _ _ (k5 _ _ he3)) (by rw [hz3.1]; exact q)
    have K5 : X.K.In h5 := J3.kIn.keeps k5
    have LM := PySem.W.exm_tup3 (M := model X.prog X.w) (tp := h3.objs.size) K5 LT (Heap.get?_push_size h3 rfl) hb1
    have fl5 := fly_keeps fl3 k5
    have up5 : s'.heap.UpToSlots h5 := up3.trans (Heap.UpToSlots.of_keeps k5)
    refine test (LM.here ?_)
    cases b with
    | true =>
      refine codeAny_handlers_suite_as ?_
      refine HandSPX.lands_againZ fl5 fun h4 fl4 up4 => ?_
      have J4 : Inv X pins σ' H' { s' with heap := h4 } := J.landed nb fl4.1 ((up.trans up5).trans up4) os ag
      obtain ⟨oe4, vs4, he4, hz4, hd4⟩ := fl4.there
      have S4 := J4.suite he4 hd4 na nL nF
      refine store_ok (X := X.suite a ((a, oe4) :: (X.pn ++ pins))) (v := .ref a) S4 hN hi (.inl hln) rfl (fun s5 S5 => ?_) (.inr hln)
      have end_ : ∀ {σ6 : L2.St} {H6 : Hp} {Q : Shared → Prop} {s6 : Shared}, Inv (X.suite a ((a, oe4) :: (X.pn ++ pins))) [] σ6 H6 s6 → (∀ s7, Inv X pins (σ6.set i none) H6 s7 → Q s7) →
          wpAny (model X.prog X.w) X.A (do bindName X.env n .none; unbindBehindTheSuite X.env n pos') (fun _ s7 => Q s7) X.xe s6 := fun {σ6 H6 Q s6} S6 hq => gone_ok (S6.unsuite ok) hN hi hln hq
      refine wpAny_mono ((hsu a oe4 cls d (X.pn ++ pins) hz4 ⟨_, hd4⟩).run [] s5 _ H' _ S5 (hyes rfl a na)) (fun f s6 hsp => ?_) (fun _ _ z => False.elim z)
      cases f with
      | ret u =>
        obtain ⟨v6, σ6, H6, S6, r6, q6⟩ := hsp
        exact end_ S6 fun s7 J7 => ⟨_, _, _, J7, r6, q6⟩
      | next =>
        obtain ⟨σ6, H6, S6, q6⟩ := hsp
        exact end_ S6 fun s7 J7 => ⟨_, _, J7, q6⟩
      | brk =>
        obtain ⟨σ6, H6, S6, q6⟩ := hsp
        exact end_ S6 fun s7 J7 => ⟨_, _, J7, q6⟩
      | cont =>
        obtain ⟨σ6, H6, S6, q6⟩ := hsp
        exact end_ S6 fun s7 J7 => ⟨_, _, J7, q6⟩
    | false =>
      show wpAny _ X.A (handleBy (.ref a) X.env []) _ _ _
      refine wpAny_handleBy_nil ?_
      obtain ⟨m1, m2, m3, oe, vs, T, oT, ts', he, hz, hd, h1, hr⟩ := id fl5
      have fin : wpAny (model X.prog X.w) X.A (setFlight (.ref a) X.env.frame) (fun _ s4 => wpAny (model X.prog X.w) X.A (throw (.ref a) : Sem Flow) (SP X pins D) X.xe s4) X.xe { s' with heap := h5 } := by
        rw [hf]
        refine HandSPX.setFlight_upZ fl5 fun h4 hh4 up4 => wpAny_throw (tk _ _ ?_)
        exact ⟨a, B, sI, pins, σ', H', cls, d, rfl, J, nb, (up.trans up5).trans up4, .inr (.inr (by rw [hs]; exact hh4)), na, os, ag, hno rfl⟩
      unfold PySem.passOn
      refine wpAny_bind (wpAny_field he hd h1 ?_)
      rw [if_neg (show ¬ ((Value.ref T == Value.none) = true) from by simp)]
      first
        | exact wpAny_bind (wpAny_pure (wpAny_bind fin))
        | exact wpAny_bind fin
  · cases f with
    | ret u =>
      obtain ⟨v, σ', H', J', r, q⟩ := hsp
      exact ⟨v, σ', H', J'.ofTry ok, r, q⟩
    | next =>
      obtain ⟨σ', H', J', q⟩ := hsp
      exact wpAny_execs_nil ⟨σ', H', J'.ofTry ok, q⟩
    | brk =>
      obtain ⟨σ', H', J', q⟩ := hsp
      exact ⟨σ', H', J'.ofTry ok, q⟩
    | cont =>
      obtain ⟨σ', H', J', q⟩ := hsp
      exact ⟨σ', H', J'.ofTry ok, q⟩
end
end Dl

set_option Elab.async false
set_option linter.all false
set_option maxRecDepth 100000
set_option maxHeartbeats 4000000
namespace Dl
open PySem PySem.Spec PyProof.Rows L2
/-! ## defs that may raise an own error without fields -/
structure FnX (P : Program) (w : World) (K : PySem.W.Frag) (mg : Str → Option Value) (base : Heap) (k : Nat) (f : Addr) (fd : FuncData) (ps : List Str) (sp : Sp) : Prop where
  len : ∀ vs H Q E, sp vs H Q E → vs.length = ps.length
  run : ∀ (A : Around) (outer : List Env) (s : Shared) (H : Hp) (args : Args) (us : List Value) (vs : List V) (Q : VK) (E : XK), Room k A → A.guards = some [] → Env0 P w K mg base A outer s H → BindsTo s fd args (ps.zip us) → Vals vs us → sp vs H Q E →
    codeAny (model P w) A (.call (.ref f) args) (CR (L2.CX P w) outer P w H s Q E) s
theorem fn_ofX {P : Program} {w : World} {K : PySem.W.Frag} {mg : Str → Option Value} {base : Heap} {k : Nat} {f : Addr} {name qual : Str} {params : Arguments} {body : List Stmt} {scope : Scope} {dV kV doc pm cdv ct oc : Value} {an od : Option Addr}
    {osl : Array (Option Value)} {N ps : List Str} {sp : Sp} (lk : K.lookup f = some ⟨oc, od, .func (PySem.W.fnOf name qual params body scope dV kV doc pm an cdv ct), osl⟩) (hcd : PySem.W.codeIn K cdv qual = true) (S : FnScope N ps scope)
    (len : ∀ vs H Q E, sp vs H Q E → vs.length = ps.length)
    (hbody : ∀ (A : Around) (outer : List Env) (s : Shared) (H : Hp) (vs : List V) (Q : VK) (E : XK), Room k (A.deeper (envOfC qual scope s.heap.objs.size f cdv)) → A.guards = some [] → sp vs H Q E →
      ∃ t, PSs (cxOf (L2.CX P w) P w K mg base N qual scope f cdv A outer s H E) body t ∧ t { nx := fun _ H' => Q .non H', rt := Q } (L2.start N vs) H) :
    FnX P w K mg base (k + 1) f (PySem.W.fnOf name qual params body scope dV kV doc pm an cdv ct) ps sp := by
  refine ⟨len, fun A outer s H args us vs Q E hr hgd e0 hb r hsp => ?_⟩
  have hl := len _ _ _ _ hsp
  have KX : K.In s.heap := e0.mod.kin.keeps fun b o e => (e0.bs b o e).1
  have lim : s.heap.NoLimit := e0.mod.nolimit.keeps fun b o e => (e0.bs b o e).1
  have hkind : ∀ y ∈ ps.zip us, scope.names.lookup y.1 = some .local ∨ (scope.names.lookup y.1 = some .cell ∧ ((cellsFrom (s.heap.objs.size + 1) scope.names []).lookup y.1).isSome = true) := fun ⟨n, v⟩ hy => by
    rcases S.par n (List.of_mem_zip hy).1 with q | q
    · exact .inl q
    · exact .inr ⟨q, PySem.W.cellsFrom_some _ _ _ (.inl q)⟩
  refine codeAny_call_function hr.depth (KX _ _ lk) rfl S.co S.gen rfl (PySem.W.codeRec_of KX hcd) (hb _ _ _ _ ?_)
  refine wpAny_newFunctionEnv_cells S.kind hkind fun env he s1 x => ?_
  subst he
  refine ⟨lim.keeps x.toInCall.keep, codeAny_func ?_⟩
  obtain ⟨t, ht, hq⟩ := hbody A outer s H vs Q E (hr.deeper _) hgd hsp
  have I : Inv (cxOf (L2.CX P w) P w K mg base N qual scope f cdv A outer s H E) [] (L2.start N vs) H s1 := inv_start S hr.hd e0 hl r x
  refine wpAny_mono (ht.run [] s1 (L2.start N vs) H _ I hq) (fun fl s' hs => ?_) fun e s' hs => hs
  have fin : ∀ {σ' : L2.St} {H' : Hp} {v : V} {u : Value}, Inv (cxOf (L2.CX P w) P w K mg base N qual scope f cdv A outer s H E) [] σ' H' s' → RelV v u → Q v H' → CE outer P w H s Q u s' :=
    fun {σ' H' v u} J rv q => ⟨v, H', J.os, J.bare, J.base, J.hok, rv, q⟩
  cases fl with
  | ret u =>
    obtain ⟨v, σ', H', J, rv, q⟩ := hs
    exact fin J rv q
  | next =>
    obtain ⟨σ', H', J, q⟩ := hs
    exact fin (v := V.non) (u := Value.none) J rfl q
  | brk =>
    obtain ⟨_, _, _, q⟩ := hs
    exact False.elim q
  | cont =>
    obtain ⟨_, _, _, q⟩ := hs
    exact False.elim q
section
variable {P : Program} {w : World} {K : PySem.W.Frag} {mg : Str → Option Value} {base : Heap}
/-- a promise on data, with what is wanted of an error of the class at C -/
abbrev DCallX := List D → (D → Prop) → (Addr → Prop) → Prop
def spX (K : PySem.W.Frag) (R : Res) (Fx : DCallX) : Sp := fun vs H Q E => ∃ ds q x, RepAll K R.av H vs ds ∧ Pot R H ∧ Fx ds q x ∧ Fin K R H q Q ∧ ∀ C H', x C → Ext R.p H H' → Pot R H' → E (.ref C) none H'
/-- errors, wanted -/
def FinX (K : PySem.W.Frag) (R : Res) (W : WX) (H : Hp) (x : Addr → DE → Prop) : Prop := ∀ C ρ σ H', x C ρ → REnv K R.av H' σ ρ → Ext R.p H H' → Pot R H' → W (.ref C) none σ H'
theorem FinX.step {R : Res} {W : WX} {H H' : Hp} {x : Addr → DE → Prop} (e : Ext R.p H H') (f : FinX K R W H x) : FinX K R W H' x := fun C ρ σ H'' h r y o => f C ρ σ H'' h r (e.trans y) o
abbrev TDX := DEnds → (Addr → DE → Prop) → DE → Prop
def tDX (K : PySem.W.Frag) (R : Res) (W : WX) (t : TDX) : TS := fun E σ H => ∃ ρ e x, REnv K R.av H σ ρ ∧ Pot R H ∧ t e x ρ ∧ FinS K R H e E ∧ FinX K R W H x
abbrev EX (X : Cx) (R : Res) (W : WX) (st : Stmt) (t : TDX) : Prop := PS X st (tDX X.K R W t)
abbrev EXs (X : Cx) (R : Res) (W : WX) (sts : List Stmt) (t : TDX) : Prop := PSs X sts (tDX X.K R W t)
/-- THE RULE for such a def -/
theorem FunX.ok {x qual : Str} {st : Stmt} {f : Addr} {fd : FuncData} {N ps : List Str} {k : Nat} {R : Res} {Fx : DCallX} (F : Fun K x qual st f fd) (S : FnScope N ps (defScope st)) (len : ∀ ds q x, Fx ds q x → ds.length = ps.length)
    (hbody : ∀ (cdv : Value) (A : Around) (outer : List Env) (s : Shared) (H : Hp) (E : XK) (ds : List D) (q : D → Prop) (x : Addr → Prop), Room k (A.deeper (envOfC qual (defScope st) s.heap.objs.size f cdv)) → A.guards = some [] → Fx ds q x →
      ∃ t, EXs (cxOf (L2.CX P w) P w K mg base N qual (defScope st) f cdv A outer s H E) R (fun cls d _ H' => E cls d H') (defBody st) t ∧ t ⟨fun _ => q .non, q⟩ (fun C _ => x C) (startD N ds)) : FnX P w K mg base (k + 1) f fd ps (spX K R Fx) := by
  obtain ⟨oc, od, kV, doc, pm, an, cdv, ct, osl, rfl, lk, hcd⟩ := F.ex
  refine fn_ofX lk hcd S (fun vs H Q E ⟨ds, q, x, r, _, h, _⟩ => by rw [r.length]; exact len ds q x h) fun A outer s H vs Q E hr hg ⟨ds, q, x, r, o, h, f, g⟩ => ?_
  obtain ⟨t, ht, hq⟩ := hbody cdv A outer s H E ds q x hr hg h
  exact ⟨_, ht, _, _, _, start_env r, o, hq, ⟨fun ρ σ H' w r' e o' => f _ _ H' w .non e o', f⟩, fun C ρ σ H' hx r' e o' => g C H' hx e o'⟩
theorem takes_fn {N : List Str} {qual : Str} {scope : Scope} {f : Addr} {cdv : Value} {A : Around} {outer : List Env} {s : Shared} {H : Hp} {E : XK} : Takes (cxOf (L2.CX P w) P w K mg base N qual scope f cdv A outer s H E) (fun cls d _ H' => E cls d H') :=
  takes_of (E := E) rfl rfl rfl rfl
structure DefX (P : Program) (w : World) (K : PySem.W.Frag) (mg : Str → Option Value) (base : Heap) (x : Str) (ps : List Str) (k : Nat) (sp : Sp) : Prop where
  ex : ∃ (f : Addr) (fd : FuncData), FnX P w K mg base k f fd ps sp ∧ mg x = some (.ref f) ∧ PySem.W.keepIn K (.ref f) = true ∧ Binds K fd ps [] ∧ ∀ (s : Shared) (u : Value), ps.length = 1 → BindsTo s fd ⟨[], ps.zip [u]⟩ (ps.zip [u])
end
section
variable {X : Cx} {R : Res} {W : WX} {pos : Pos}
theorem x_lift {st : Stmt} {t : TDS} (h : ES X R st t) : EX X R W st (fun e _ ρ => t e ρ) := PS_imp h fun E σ H ⟨ρ, e, x, r, o, w, f, g⟩ => ⟨ρ, e, r, o, w, f⟩
theorem xs_lift {sts : List Stmt} {t : TDS} (h : ESs X R sts t) : EXs X R W sts (fun e _ ρ => t e ρ) := PSs_imp h fun E σ H ⟨ρ, e, x, r, o, w, f, g⟩ => ⟨ρ, e, r, o, w, f⟩
def xSeq (t u : TDX) : TDX := fun e x ρ => t ⟨u e x, e.rt⟩ x ρ
theorem xs_cons {st : Stmt} {rest : List Stmt} {t u : TDX} (h1 : EX X R W st t) (h2 : EXs X R W rest u) : EXs X R W (st :: rest) (xSeq t u) := PSs_imp (pss_cons h1 h2) fun E σ H ⟨ρ, e, x, r, o, w, f, g⟩ =>
  ⟨ρ, _, x, r, o, w, ⟨fun ρ' σ' H' w' r' y o' => ⟨ρ', e, x, r', o', w', f.step y, g.step y⟩, f.rt⟩, g⟩
theorem xs_one {st : Stmt} {t : TDX} (h1 : EX X R W st t) : EXs X R W [st] t := pss_one h1
def xIf (c : TDT) (t u : TDX) : TDX := fun e x ρ => c ρ fun b => if b = true then t e x ρ else u e x ρ
theorem x_if {c : Expr} {a b : List Stmt} {tc : TDT} {t u : TDX} (hc : ET X R c tc) (ha : EXs X R W a t) (hb : EXs X R W b u) : EX X R W (.If c a b pos) (xIf tc t u) := PS_imp (ps_if hc ha hb) fun E σ H ⟨ρ, en, x, r, o, w, f, g⟩ => by
  refine ⟨ρ, _, r, o, w, fun k H1 w1 e1 o1 => ?_⟩
  cases k with
  | true => rw [if_pos rfl] at w1 ⊢; exact ⟨ρ, en, x, r.mono e1, o1, w1, f.step e1, g.step e1⟩
  | false => rw [if_neg Bool.false_ne_true] at w1 ⊢; exact ⟨ρ, en, x, r.mono e1, o1, w1, f.step e1, g.step e1⟩
/-! ### calls -/
theorem run_fnX {k : Nat} {f : Addr} {fd : FuncData} {ps : List Str} {sp : Sp} {E : L2.St → XK} {pins : List (Addr × Obj)} {σ : L2.St} {H : Hp} {s : Shared} {Q : VK} {us : List Value} {vs : List V} {args : Args} (F : FnX X.prog X.w X.K X.mg X.base k f fd ps sp) (hr : Room k X.A) (hg : X.A.guards = some []) (hb : us.length = ps.length → BindsTo s fd args (ps.zip us)) (hx : PassesAt (L2.CX X.prog X.w) X σ (E σ))
    (I : Inv X pins σ H s) (r : Vals vs us) (h : sp vs H Q (E σ)) : wpAny (model X.prog X.w) X.A (call (.ref f) args.pos args.kw) (EP X pins σ Q) X.xe s := by
  have hl : us.length = ps.length := by rw [← r.length]; exact F.len _ _ _ _ h
  refine wpAny_call (codeAny_mono (F.run X.A X.stack s H args us vs Q (E σ) hr hg I.env0 (hb hl) r h) fun r s' hq => ?_)
  cases r with
  | error e => exact hx pins H s e s' I hq
  | ok fl =>
    cases fl with
    | ret u => exact I.after hq
    | next => exact False.elim hq
    | brk => exact False.elim hq
    | cont => exact False.elim hq
/-- f(e, ..) -/
theorem pe_callX {k : Nat} {f : Addr} {fd : FuncData} {ps : List Str} {sp : Sp} {E : L2.St → XK} {x : Str} {p : Pos} {e : Expr} {es : List Expr} {t : TA} (F : FnX X.prog X.w X.K X.mg X.base k f fd ps sp) (hr : Room k X.A) (hgd : X.A.guards = some []) (hg : Gl X x) (hm : X.mg x = some (.ref f)) (hk : PySem.W.keepIn X.K (.ref f) = true) (hb : Binds X.K fd ps []) (hx : ∀ σ, PassesAt (L2.CX X.prog X.w) X σ (E σ))
    (ha : PA X (e :: es) t) (hdb : (x == ("__debug__" : Str)) = false := by decide) (he : starEach (e :: es) X.env = (false, eval e X.env) :: starEach es X.env := by rfl) (hpl : (backTo pos (starEach es X.env)).any (·.1) = false := by rfl) :
    PE X (.Call (.Name x p) (e :: es) [] pos) (tCallS sp E t) := by
  refine ⟨fun pins s σ H Q I h => ?_⟩
  refine wpAny_Call_Name_kw (ld_glob I hg hm ?_ hdb)
  refine PySem.W.callWith_K (h₀ := X.base) I.ok.mod.kin hk (thn (ha.run pos pins s σ H _ I h) fun us s1 ⟨vs, H1, I1, r, q⟩ => ⟨I1.kIn, ?_⟩) he hpl
  exact run_fnX (args := ⟨us, []⟩) F hr hgd (fun hl => by
    have b := hb s1 us I1.kIn (by rw [List.append_nil]; exact hl)
    rw [List.append_nil] at b
    exact b) (hx σ) I1 r q
/-- an own error may come of it: f(e, ..) as a statement -/
def xCall (Fx : DCallX) (ta : TDA) : TDX := fun e x ρ => ta ρ fun ds => Fx ds (fun _ => e.nx ρ) (fun C => x C ρ)
theorem x_call {k : Nat} {x : Str} {p pos' : Pos} {e : Expr} {es : List Expr} {ta : TDA} {Fx : DCallX} {ps : List Str} (F : DefX X.prog X.w X.K X.mg X.base x ps k (spX X.K R Fx)) (tk : Takes X W) (hr : Room k X.A) (hgd : X.A.guards = some []) (ha : EA X R (e :: es) ta) (hg : Gl X x := by rfl)
    (hdb : (x == ("__debug__" : Str)) = false := by decide) (he : starEach (e :: es) X.env = (false, eval e X.env) :: starEach es X.env := by rfl) (hpl : (backTo pos (starEach es X.env)).any (·.1) = false := by rfl) :
    EX X R W (.Expr (.Call (.Name x p) (e :: es) [] pos) pos') (xCall Fx ta) := by
  obtain ⟨f, fd, F, hm, hk, hb, _⟩ := F.ex
  refine PS_imp (ps_expr (pe_callX (E := WE W) F hr hgd hg hm hk hb (fun σ => passAt tk σ) ha hdb he hpl)) fun E σ H ⟨ρ, en, x, r, o, w, f, g⟩ => ?_
  refine ⟨ρ, _, r, o, w, fun ds vs H1 w1 r1 e1 o1 => ?_⟩
  exact ⟨ds, _, _, r1, o1, w1, fun d v H2 w2 r2 e2 o2 => f.nx ρ σ H2 w2 (r.mono (e1.trans e2)) (e1.trans e2) o2, fun C H2 hx e2 o2 => g C ρ σ H2 hx (r.mono (e1.trans e2)) (e1.trans e2) o2⟩
/-- no error comes of it: f(e, ..) as a value -/
def vCallN (Fx : DCallX) (ta : TDA) : TDE := fun ρ q => ta ρ fun ds => Fx ds q (fun _ => False)
theorem pass_no {σ : L2.St} : PassesAt (L2.CX X.prog X.w) X σ E0 := fun pins H s e s' I h => by
  obtain ⟨_, _, _, _, _, _, _, _, _, _, _, _, z⟩ := h
  exact z.elim
theorem d_callN {k : Nat} {x : Str} {p : Pos} {e : Expr} {es : List Expr} {ta : TDA} {Fx : DCallX} {ps : List Str} (F : DefX X.prog X.w X.K X.mg X.base x ps k (spX X.K R Fx)) (hr : Room k X.A) (hgd : X.A.guards = some []) (ha : EA X R (e :: es) ta) (hg : Gl X x := by rfl)
    (hdb : (x == ("__debug__" : Str)) = false := by decide) (he : starEach (e :: es) X.env = (false, eval e X.env) :: starEach es X.env := by rfl) (hpl : (backTo pos (starEach es X.env)).any (·.1) = false := by rfl) :
    EE X R (.Call (.Name x p) (e :: es) [] pos) (vCallN Fx ta) := by
  obtain ⟨f, fd, F, hm, hk, hb, _⟩ := F.ex
  refine PE_imp (pe_callX (E := fun _ => E0) F hr hgd hg hm hk hb (fun σ => pass_no) ha hdb he hpl) fun σ H Q ⟨ρ, q, r, o, w, f⟩ => ?_
  refine ⟨ρ, _, r, o, w, fun ds vs H1 w1 r1 e1 o1 => ?_⟩
  exact ⟨ds, q, fun _ => False, r1, o1, w1, f.step e1, fun C H2 hx => hx.elim⟩
/-- .. by the parameter's name -/
theorem d_callNK {k : Nat} {x y : Str} {p kp : Pos} {e : Expr} {te : TDE} {Fx : DCallX} (F : DefX X.prog X.w X.K X.mg X.base x [y] k (spX X.K R Fx))
    (hr : Room k X.A) (hgd : X.A.guards = some []) (ha : EE X R e te) (hg : Gl X x := by rfl)
    (hdb : (x == ("__debug__" : Str)) = false := by decide) (hall : (backToKw pos (keywordEach [⟨some y, e, kp⟩] X.env)).all (·.1.isSome) = true := by rfl) (hks : (backToKw pos (keywordEach [⟨some y, e, kp⟩] X.env)).filterMap (·.1) = [y] := by rfl)
    (hpl : ((backTo pos (starEach [] X.env)).any (·.1) || (backToKw pos (keywordEach [⟨some y, e, kp⟩] X.env)).any (·.1.isNone)) = false := by rfl) :
    EE X R (.Call (.Name x p) [] [⟨some y, e, kp⟩] pos) (vCallN Fx (vCons te vNil)) := by
  obtain ⟨f, fd, F, hm, hk, hb, hbk⟩ := F.ex
  refine ⟨fun pins s σ H Q I ⟨ρ, q, r, o, w, fi⟩ => ?_⟩
  refine wpAny_Call_Name_kw (ld_glob I hg hm ?_ hdb)
  refine PySem.W.callWith_KW0 (h₀ := X.base) I.ok.mod.kin hk hall ?_ hpl
  refine thn ((pk_cons (nm := some y) (kpos := kp) ha pk_nil).run pos pins s σ H (fun vs H1 => spX X.K R Fx vs H1 Q E0) I ?_) fun ws s2 ⟨zs, H2, I2, rz, q2⟩ => ⟨I2.kIn, ?_⟩
  · refine ⟨ρ, _, r, o, w, fun d v H1 w1 r1 e1 o1 => ?_⟩
    exact ⟨[d], q, fun _ => False, .cons r1 .nil, o1, w1, fi.step e1, fun C H2 hx => hx.elim⟩
  · rw [hks]
    have hl : zs.length = 1 := F.len _ _ _ _ q2
    obtain ⟨z, rfl⟩ : ∃ z, zs = [z] := by
      match zs, hl with | [z], _ => exact ⟨z, rfl⟩
    cases rz with
    | cons ru rn =>
      cases rn
      exact run_fnX (E := fun _ => E0) (args := ⟨[], [y].zip [_]⟩) F hr hgd (fun _ => hbk s2 _ rfl) pass_no I2 (.cons ru .nil) q2
/-! ### raise -/
def xRaise (C : Addr) : TDX := fun _ x ρ => x C ρ
theorem x_raise {C : Addr} {bmB : List Value} {B newId initId : String} {x m : Str} {j : Nat} {p p2 pos1 : Pos} (hc : X.calm = true) (tk : Takes X W) (F : ExcBaseFacts B newId initId bmB) (q : PySem.W.excIn X.K C bmB newId = true) (gC : X.mg x = some (.ref C)) (kC : PySem.W.keepIn X.K (.ref C) = true) (r : Raises X (.ref C)) (hg : Gl X x := by rfl)
    (hdb : (x == ("__debug__" : Str)) = false := by decide) : EX X R W (.Raise (some (.Call (.Name x p) [.Constant (.str m) j p2] [] pos)) none pos1) (xRaise C) :=
  PS_imp (ps_raise hc tk (pmk_own F q gC kC r hg hdb)) fun E σ H ⟨ρ, en, x, r, o, w, f, g⟩ => g C ρ σ H w r (Ext.refl _ _) o
/-! ### try -/
/-- the suite of the clause: the class of the error, the error's address -/
def tSu (K : PySem.W.Frag) (R : Res) (tsu : Addr → Addr → TDS) : Addr → Value → Option Addr → TS := fun a cls d E σ H => ∃ ρ e C, cls = .ref C ∧ d = none ∧ REnv K R.av H σ ρ ∧ Pot R H ∧ tsu C a e ρ ∧ FinS K R H e E
def sTry (K : PySem.W.Frag) (cs : List Value) (i : Nat) (tb : TDX) (tsu : Addr → Addr → TDS) : TDS := fun e ρ =>
  tb e (fun C ρ' => PySem.W.exmAny K (.ref C) cs = some true ∧ ∀ a, tsu C a ⟨fun ρ'' => e.nx (ρ''.set i none), e.rt⟩ (ρ'.set i (some (.ptr a)))) ρ
theorem s_try3 {n : Str} {i : Nat} {body suite : List Stmt} {b₀ : Stmt} {pos' : Pos} {tb : TDX} {tsu : Addr → Addr → TDS} {x1 x2 x3 : Str} {c1 c2 c3 : Value} {p1 p2 p3 tp : Pos} {kt : Nat} (hs : X.stack = X.env :: X.outer) (hf : X.env.frame = some X.env.locals) (hN : X.N.Nodup) (hi : X.N[i]? = some n) (hln : X.env.kindOf n = some .local) (hc1 : Names X x1 c1) (hc2 : Names X x2 c2) (hc3 : Names X x3 c3)
    (hb : ∀ (W : WX) (pn : List (Addr × Obj)) (xe : Value → Shared → Prop), Takes (X.tr pn xe) W → EXs (X.tr pn xe) R W body tb)
    (hsu : ∀ (a : Addr) (oe : Obj) (cls : Value) (d : Option Addr) (pn : List (Addr × Obj)), Zc cls d oe → (∃ vs, oe.data = .fields vs) → PSs (X.suite a ((a, oe) :: pn)) (b₀ :: suite) (tSu X.K R tsu a cls d)) :
    ES X R (.Try body [.ExceptHandler (some (.Tuple [.Name x1 p1, .Name x2 p2, .Name x3 p3] kt tp)) (some n) (b₀ :: suite) pos'] [] [] pos) (sTry X.K [c1, c2, c3] i tb tsu) :=
  PS_imp (ps_try_as3 (Wout := fun _ _ _ _ => False) (tb := fun W => tDX X.K R W tb) hs hf hN hi hln hc1 hc2 hc3 takes0 (fun W pn xe tk _ => hb W pn xe tk) hsu) fun E σ H ⟨ρ, e, r, o, w, f⟩ => by
    refine ⟨ρ, e, _, r, o, w, f, ?_⟩
    rintro C ρ' σ' H' ⟨hm, hall⟩ r' e' o'
    refine ⟨true, hm, fun _ a na => ⟨ρ'.set i (some (.ptr a)), _, C, rfl, rfl, r'.set (.ptr a) i, o', hall a, ⟨fun ρ'' σ'' H'' w'' r'' e'' o'' => ?_, f.rt.step e'⟩⟩, fun z => nomatch z⟩
    exact f.nx _ _ H'' w'' (r''.drop i) (e'.trans e'') o''
end
/-! ## a def that is handed the error that its caller holds -/
open L2H in
structure FnP (P : Program) (w : World) (K : PySem.W.Frag) (mg : Str → Option Value) (base : Heap) (k : Nat) (f : Addr) (fd : FuncData) (ps : List Str) (sp : Addr × Obj → Sp) : Prop where
  len : ∀ p vs H Q E, sp p vs H Q E → vs.length = ps.length
  run : ∀ (A : Around) (outer : List Env) (s : Shared) (H : Hp) (args : Args) (us : List Value) (vs : List V) (Q : VK) (E : XK) (p : Addr × Obj), RoomH k A → A.guards = some [] → PinOk outer H s p → Env0 P w K mg base A outer s H → BindsTo s fd args (ps.zip us) → Vals vs us → sp p vs H Q E →
    codeAny (model P w) A (.call (.ref f) args) (CR CX0 outer P w H s Q E) s
open L2H in
theorem fn_ofP {P : Program} {w : World} {K : PySem.W.Frag} {mg : Str → Option Value} {base : Heap} {k : Nat} {f : Addr} {name qual : Str} {params : Arguments} {body : List Stmt} {scope : Scope} {dV kV doc pm cdv ct oc : Value} {an od : Option Addr}
    {osl : Array (Option Value)} {N ps : List Str} {sp : Addr × Obj → Sp} (lk : K.lookup f = some ⟨oc, od, .func (PySem.W.fnOf name qual params body scope dV kV doc pm an cdv ct), osl⟩) (hcd : PySem.W.codeIn K cdv qual = true) (S : FnScope N ps scope)
    (len : ∀ p vs H Q E, sp p vs H Q E → vs.length = ps.length)
    (hbody : ∀ (A : Around) (outer : List Env) (s : Shared) (H : Hp) (vs : List V) (Q : VK) (E : XK) (p : Addr × Obj), RoomH k (A.deeper (envOfC qual scope s.heap.objs.size f cdv)) → A.guards = some [] → sp p vs H Q E →
      ∃ t, PSs (cxH CX0 P w K mg base N qual scope f cdv A outer s H E p) body t ∧ t { nx := fun _ H' => Q .non H', rt := Q } (L2.start N vs) H) :
    FnP P w K mg base (k + 1) f (PySem.W.fnOf name qual params body scope dV kV doc pm an cdv ct) ps sp := by
  refine ⟨len, fun A outer s H args us vs Q E p hr hgd hpin e0 hb r hsp => ?_⟩
  have hl := len _ _ _ _ _ hsp
  have KX : K.In s.heap := e0.mod.kin.keeps fun b o e => (e0.bs b o e).1
  have lim : s.heap.NoLimit := e0.mod.nolimit.keeps fun b o e => (e0.bs b o e).1
  have hkind : ∀ y ∈ ps.zip us, scope.names.lookup y.1 = some .local ∨ (scope.names.lookup y.1 = some .cell ∧ ((cellsFrom (s.heap.objs.size + 1) scope.names []).lookup y.1).isSome = true) := fun ⟨n, v⟩ hy => by
    rcases S.par n (List.of_mem_zip hy).1 with q | q
    · exact .inl q
    · exact .inr ⟨q, PySem.W.cellsFrom_some _ _ _ (.inl q)⟩
  refine codeAny_call_function hr.depth (KX _ _ lk) rfl S.co S.gen rfl (PySem.W.codeRec_of KX hcd) (hb _ _ _ _ ?_)
  refine wpAny_newFunctionEnv_cells S.kind hkind fun env he s1 x => ?_
  subst he
  refine ⟨lim.keeps x.toInCall.keep, codeAny_func ?_⟩
  obtain ⟨t, ht, hq⟩ := hbody A outer s H vs Q E p (hr.deeper _) hgd hsp
  have I : Inv (cxH CX0 P w K mg base N qual scope f cdv A outer s H E p) [] (L2.start N vs) H s1 := inv_startH S hpin e0 hl r x
  refine wpAny_mono (ht.run [] s1 (L2.start N vs) H _ I hq) (fun fl s' hs => ?_) fun e s' hs => hs
  have fin : ∀ {σ' : L2.St} {H' : Hp} {v : V} {u : Value}, Inv (cxH CX0 P w K mg base N qual scope f cdv A outer s H E p) [] σ' H' s' → RelV v u → Q v H' → CE outer P w H s Q u s' :=
    fun {σ' H' v u} J rv q => ⟨v, H', J.os, J.bare, J.base, J.hok, rv, q⟩
  cases fl with
  | ret u =>
    obtain ⟨v, σ', H', J, rv, q⟩ := hs
    exact fin J rv q
  | next =>
    obtain ⟨σ', H', J, q⟩ := hs
    exact fin (v := V.non) (u := Value.none) J rfl q
  | brk =>
    obtain ⟨_, _, _, q⟩ := hs
    exact False.elim q
  | cont =>
    obtain ⟨_, _, _, q⟩ := hs
    exact False.elim q
/-- its promise: the error's class -/
def spP (K : PySem.W.Frag) (R : Res) (Fs : Addr → (D → Prop) → Prop) : Addr × Obj → Sp := fun p vs H Q _ => ∃ C q, vs = [.ref p.1] ∧ Zc (.ref C) none p.2 ∧ (∃ fs, p.2.data = .fields fs) ∧ Pot R H ∧ Fs C q ∧ Fin K R H q Q
section
variable {P : Program} {w : World} {K : PySem.W.Frag} {mg : Str → Option Value} {base : Heap}
open L2H in
theorem FunP.ok {x qual : Str} {st : Stmt} {f : Addr} {fd : FuncData} {N : List Str} {y : Str} {k : Nat} {R : Res} {Fs : Addr → (D → Prop) → Prop} (F : Fun K x qual st f fd) (S : FnScope N [y] (defScope st))
    (hbody : ∀ (cdv : Value) (A : Around) (outer : List Env) (s : Shared) (H : Hp) (E : XK) (p : Addr × Obj) (C : Addr) (q : D → Prop), RoomH k (A.deeper (envOfC qual (defScope st) s.heap.objs.size f cdv)) → A.guards = some [] → Zc (.ref C) none p.2 → (∃ fs, p.2.data = .fields fs) → Fs C q →
      ∃ t, ESs (cxH CX0 P w K mg base N qual (defScope st) f cdv A outer s H E p) R (defBody st) t ∧ t ⟨fun _ => q .non, q⟩ (startD N [.ptr p.1])) : FnP P w K mg base (k + 1) f fd [y] (spP K R Fs) := by
  obtain ⟨oc, od, kV, doc, pm, an, cdv, ct, osl, rfl, lk, hcd⟩ := F.ex
  refine fn_ofP lk hcd S (fun p vs H Q E ⟨C, q, e, _⟩ => by rw [e]; rfl) fun A outer s H vs Q E p hr hg ⟨C, q, e, hz, hf, o, h, fi⟩ => ?_
  subst e
  obtain ⟨t, ht, hq⟩ := hbody cdv A outer s H E p C q hr hg hz hf h
  exact ⟨_, ht, _, _, start_env (.cons (.ptr _) .nil), o, hq, fun ρ σ H' w r' e o' => fi _ _ H' w .non e o', fi⟩
structure DefE (P : Program) (w : World) (K : PySem.W.Frag) (mg : Str → Option Value) (base : Heap) (x : Str) (k : Nat) (sp : Addr × Obj → Sp) : Prop where
  ex : ∃ (f : Addr) (fd : FuncData) (ps : List Str), FnP P w K mg base k f fd ps sp ∧ mg x = some (.ref f) ∧ PySem.W.keepIn K (.ref f) = true ∧ Binds K fd ps []
end
section
variable {X : Cx} {R : Res} {pos : Pos}
open L2H in
/-- f(e), e the error, as the clause holds it -/
theorem pe_callP {k : Nat} {x : Str} {p : Pos} {e : Expr} {te : TE} {sp : Addr × Obj → Sp} {a : Addr} {oe : Obj} {pn : List (Addr × Obj)} (F : DefE X.prog X.w X.K X.mg X.base x k sp) (hr : Room k X.A) (hgd : X.A.guards = some []) (he : PE (X.suite a ((a, oe) :: pn)) e te) (hg : Gl X x := by rfl)
    (hdb : (x == ("__debug__" : Str)) = false := by decide) (hs : starEach [e] X.env = (false, eval e X.env) :: starEach [] X.env := by rfl) (hpl : (backTo pos (starEach [] X.env)).any (·.1) = false := by rfl) :
    PE (X.suite a ((a, oe) :: pn)) (.Call (.Name x p) [e] [] pos) (fun σ H Q => te σ H fun v H1 => [v] = [V.ref a] ∧ sp (a, oe) [.ref a] H1 Q E0) := by
  obtain ⟨f, fd, ps, F, hm, hk, hb⟩ := F.ex
  refine ⟨fun pins s σ H Q I h => ?_⟩
  refine wpAny_Call_Name_kw (ld_glob (X := X.suite a ((a, oe) :: pn)) I hg hm ?_ hdb)
  refine PySem.W.callWith_K (h₀ := X.base) I.ok.mod.kin hk (thn ((pa_cons he pa_nil hs).run pos pins s σ H (fun vs H1 => vs = [V.ref a] ∧ sp (a, oe) [.ref a] H1 Q E0) I ?_) fun us s1 ⟨vs, H1, I1, r, q⟩ => ⟨I1.kIn, ?_⟩) hs hpl
  · exact h
  · obtain ⟨rfl, q⟩ := q
    have P1 := I1.pin (a, oe) (List.mem_append_left _ List.mem_cons_self)
    have hpin : PinOk X.stack H1 s1 (a, oe) := ⟨P1.1, P1.2.1, fun hm => (List.mem_cons.mp (I1.stkSub a hm)).elim P1.2.2.1 P1.2.2.2.1, P1.2.2.2.2⟩
    have hl : us.length = ps.length := by rw [← r.length]; exact F.len _ _ _ _ _ q
    have b := hb s1 us I1.kIn (by rw [List.append_nil]; exact hl)
    rw [List.append_nil] at b
    refine wpAny_call (codeAny_mono (F.run (X.A.mark (some (.ref a))) X.stack s1 H1 ⟨us, []⟩ us [.ref a] Q E0 (a, oe) (roomH_mark hr _) hgd hpin I1.env0 b r q) fun r s' hq => ?_)
    cases r with
    | error e => exact hq.elim
    | ok fl =>
      cases fl with
      | ret u => exact I1.after hq
      | next => exact False.elim hq
      | brk => exact False.elim hq
      | cont => exact False.elim hq
/-- the suite: n = f(e) -/
def sHand (i j : Nat) (Fs : Addr → (D → Prop) → Prop) : Addr → Addr → TDS := fun C a e ρ => ρ[i]? = some (some (.ptr a)) ∧ Fs C (fun d => e.nx (ρ.set j (some d)))
theorem su_hand {k i j : Nat} {x y z : Str} {p p1 p2 pos3 : Pos} {Fs : Addr → (D → Prop) → Prop} (nd : X.N.Nodup) (F : DefE X.prog X.w X.K X.mg X.base x k (spP X.K R Fs)) (hr : Room k X.A) (hgd : X.A.guards = some []) (hi : X.N[i]? = some y := by rfl) (hj : X.N[j]? = some z := by rfl)
    (hv : Vis X.env.scope y := by first | exact Or.inl rfl | exact Or.inr (Or.inl rfl) | exact Or.inr (Or.inr rfl)) (hl : Loc X.env.scope z := by first | exact Or.inl rfl | exact Or.inr rfl) (hg : Gl X x := by rfl)
    (hdx : (x == ("__debug__" : Str)) = false := by decide) (hdy : (y == ("__debug__" : Str)) = false := by decide) (hcd : (y == ("__classdict__" : Str)) = false := by decide)
    (hs : starEach [.Name y p1] X.env = (false, eval (.Name y p1) X.env) :: starEach [] X.env := by rfl) (hpl : (backTo pos (starEach [] X.env)).any (·.1) = false := by rfl)
    (hsw : ∀ a pn, swapsWith (.Call (.Name x p) [.Name y p1] [] pos) (some (.Name z p2)) pos3.line (X.suite a pn).env = pure false := by intro _ _; rfl) (hfn : X.env.scope.names.lookup z = some .local := by rfl) :
    ∀ (a : Addr) (oe : Obj) (cls : Value) (d : Option Addr) (pn : List (Addr × Obj)), Zc cls d oe → (∃ vs, oe.data = .fields vs) → PSs (X.suite a ((a, oe) :: pn)) [.Assign [.Name z p2] (.Call (.Name x p) [.Name y p1] [] pos) pos3] (tSu X.K R (sHand i j Fs) a cls d) := by
  intro a oe cls d pn hz hf
  refine PSs_imp (pss_one (ps_set (X := X.suite a ((a, oe) :: pn)) nd hj hl (pe_callP F hr hgd (pe_var (X := X.suite a ((a, oe) :: pn)) hi hv hdy hcd) hg hdx hs hpl) (hsw a _) (.inr hfn))) ?_
  rintro E σ H ⟨ρ, e, C, rfl, rfl, r, o, ⟨h1, h2⟩, f⟩
  obtain ⟨v, hv1, hv2⟩ := r.get h1
  cases hv2
  refine ⟨_, hv1, rfl, C, _, rfl, hz, hf, o, h2, ?_⟩
  exact fun d v H' w rv e' o' => f.nx _ _ H' w ((r.mono e').set rv j) e' o'
/-! ### isinstance of the error -/
theorem call_isP {p : Addr × Obj} {D0 : Addr} (hp : p ∈ X.pn) (C : ExcC X.K D0) (hz : Zc (.ref D0) none p.2) (hf : ∃ vs, p.2.data = .fields vs) : CallR X (.builtin "isinstance") (rIsE X.K D0 p.1) := by
  intro pins s σ H xs us Q I r h
  obtain ⟨c, cv, b, rfl, hcv, e, q⟩ := h
  cases r with
  | cons rx rr =>
    cases rr with
    | cons rt rr =>
      cases rr
      cases rx
      obtain rfl := hcv _ rt
      obtain ⟨hget, _⟩ := I.pin p (List.mem_append_left _ hp)
      obtain ⟨fs, hv⟩ := hf
      have J : PySem.W.InstAt s.heap p.1 p.2 D0 none := by
        obtain ⟨pa, oc, od, oda, osl⟩ := p
        obtain ⟨h1, h2⟩ := hz
        dsimp only at h1 h2 hv
        subst h1 h2 hv
        exact ⟨hget, rfl, rfl, trivial⟩
      exact PySem.W.kia_one (PySem.W.handS_kitx_exc C.hg C.hk C.hs C.hd C.ha C.hn C.ht C.hm) I.kIn J e (fun z => nomatch z) fun tk => ⟨.bl b, H, I.kept (t' := tk) fun _ _ z => z, rfl, q⟩
/-- isinstance(e, c): the class of e at C -/
def isiE (K : PySem.W.Frag) (C a : Addr) : DCall := fun ds q => ∃ c cv b, ds = [.ptr a, c] ∧ ((∃ A, c = .ptr A ∧ cv = .ref A) ∨ ∃ n, c = .ty n ∧ cv = .type n) ∧ PySem.W.kitOne K (.ref C) cv = some b ∧ q (.bl b)
theorem cd_isE {C a : Addr} : CallD X.K R (rIsE X.K C a) (isiE X.K C a) := by
  rintro xs ds H q Q r o ⟨c, cv, b, rfl, hc, e, w⟩ f
  obtain ⟨x, y, rfl, rx, ry⟩ := r.two
  cases rx
  rcases hc with ⟨A, rfl, rfl⟩ | ⟨n, rfl, rfl⟩
  · cases ry
    exact ⟨.ref A, .ref A, b, rfl, fun u h => h, e, f _ _ H w (.bl _) (Ext.refl _ _) o⟩
  · cases ry
    exact ⟨.ty n, .type n, b, rfl, fun u h => h, e, f _ _ H w (.bl _) (Ext.refl _ _) o⟩
/-! ### lists -/
def lstOf (d : D) (xs : List D) : Prop := d = .lst xs ∨ d = .seq xs
theorem rep_lst {K : PySem.W.Frag} {p : List Addr} {H : Hp} {v : V} {d : D} {xs : List D} (r : Rep K p H v d) (h : lstOf d xs) : ∃ a vs, v = .ref a ∧ H a = some (.lst vs) ∧ RepAll K p H vs xs := by
  rcases h with rfl | rfl
  · cases r with | lst h _ _ ra => exact ⟨_, _, rfl, h, ra⟩
  · cases r with | seq h _ ra => exact ⟨_, _, rfl, h, ra⟩
def addL : DOp := fun dx dy q => ∃ xs ys, lstOf dx xs ∧ lstOf dy ys ∧ xs.length + ys.length ≤ sizeLine ∧ q (.seq (xs ++ ys))
theorem opd_addL {K : PySem.W.Frag} : OpD K R rCat addL := by
  rintro x y dx dy H q Q rx ry o ⟨xs, ys, hx, hy, hz, w⟩ f
  obtain ⟨a, vs, rfl, ha, ra⟩ := rep_lst rx hx
  obtain ⟨b, us, rfl, hb, rb⟩ := rep_lst ry hy
  exact ⟨a, b, vs, us, rfl, rfl, ha, hb, by rw [ra.length, rb.length]; exact hz, fun l n => f _ _ _ w (new_seq (ra.append rb) n o) (Ext.new n) (o.new n)⟩
def vSlL (t : TDE) (tl th : TDO) : TDE := fun ρ q => t ρ fun dx => tl ρ fun lo => th ρ fun hi => ∃ xs, lstOf dx xs ∧ q (.seq (Dl.cutD xs lo hi))
theorem d_sliceL {e : Expr} {lo hi : Option Expr} {t : TDE} {tl th : TDO} {p2 : Pos} (he : EE X R e t) (hl : PO X lo (tDO X.K R tl)) (hu : PO X hi (tDO X.K R th)) : EE X R (.Subscript e (.Slice lo hi none p2) pos) (vSlL t tl th) :=
  PE_imp (pe_slice slr_any he hl hu) fun σ H Q ⟨ρ, q, hr, ho, w, f⟩ => by
    refine ⟨ρ, _, hr, ho, w, fun dx x H1 w1 r1 e1 o1 => ?_⟩
    refine ⟨ρ, _, hr.mono e1, o1, w1, fun l H2 w2 e2 o2 => ?_⟩
    refine ⟨ρ, _, hr.mono (e1.trans e2), o2, w2, fun u H3 w3 e3 o3 => ?_⟩
    obtain ⟨xs, hx, w4⟩ := w3
    obtain ⟨a, vs, rfl, ha, ra⟩ := rep_lst ((r1.mono e2).mono e3) hx
    exact .inr (.inl ⟨a, vs, rfl, .of ha, fun A n => f _ _ _ w4 (new_seq (ra.cut l u) n o3) (((e1.trans e2).trans e3).trans (Ext.new n)) (o3.new n)⟩)
/-- == and != of lists of flat things -/
theorem rep_dp {K : PySem.W.Frag} {p : List Addr} {H : Hp} {v : V} {d : D} (r : Rep K p H v d) (h : flatD d = true) : Dp K H v d.py := by
  cases r <;> first | (cases h; done) | skip
  · simp only [D.py]; exact .non
  · simp only [D.py]; exact .bl _
  · simp only [D.py]; exact .int _
  · simp only [D.py]; exact .str _
theorem rep_dps {K : PySem.W.Frag} {p : List Addr} {H : Hp} : ∀ {vs : List V} {ds : List D}, RepAll K p H vs ds → ds.all flatD = true → DpAll K H vs (D.pys ds)
  | _, _, .nil, _ => by simp only [D.pys]; exact .nil
  | _, _, .cons r t, h => by
    rw [List.all_cons, Bool.and_eq_true] at h
    simp only [D.pys]
    exact .cons (rep_dp r h.1) (rep_dps t h.2)
def eqLD (neg : Bool) : DOp := fun dx dy q => ∃ xs ys, lstOf dx xs ∧ lstOf dy ys ∧ xs.all flatD = true ∧ ys.all flatD = true ∧ SeqAt.shaped (.list (D.pys xs)) = true ∧ SeqAt.shaped (.list (D.pys ys)) = true ∧
  q (.bl (if neg then !PyData.eqv (.list (D.pys xs)) (.list (D.pys ys)) else PyData.eqv (.list (D.pys xs)) (.list (D.pys ys))))
theorem opd_eqL : OpD X.K R (rEqD X.K) (eqLD false) := by
  rintro x y dx dy H q Q rx ry o ⟨xs, ys, hx, hy, f1, f2, s1, s2, w⟩ f
  obtain ⟨a, vs, rfl, ha, ra⟩ := rep_lst rx hx
  obtain ⟨b, us, rfl, hb, rb⟩ := rep_lst ry hy
  exact ⟨_, _, .lst (.of ha) (rep_dps ra f1), .lst (.of hb) (rep_dps rb f2), s1, s2, f _ _ H w (.bl _) (Ext.refl _ _) o⟩
theorem opd_neL : OpD X.K R (rNeD X.K) (eqLD true) := by
  rintro x y dx dy H q Q rx ry o ⟨xs, ys, hx, hy, f1, f2, s1, s2, w⟩ f
  obtain ⟨a, vs, rfl, ha, ra⟩ := rep_lst rx hx
  obtain ⟨b, us, rfl, hb, rb⟩ := rep_lst ry hy
  exact ⟨_, _, .lst (.of ha) (rep_dps ra f1), .lst (.of hb) (rep_dps rb f2), s1, s2, f _ _ H w (.bl _) (Ext.refl _ _) o⟩
/-! ### list.count, list.index, of flat things -/
def rCount (K : PySem.W.Frag) : V → List V → Hp → VK → Prop := fun x xs H Q => ∃ (a : Addr) (ys : List V) (y : V), x = V.ref a ∧ xs = [y] ∧ SqL K H a ys ∧ flatV y = true ∧ ys.all flatV = true ∧ Q (.int ((ys.countP fun z => eqV z y : Nat) : Int)) H
theorem countP_rel {y : V} : ∀ {ys : List V} {us : List Value}, Vals ys us → ys.all flatV = true → us.countP (eqU y) = ys.countP fun z => eqV z y
  | _, _, .nil, _ => rfl
  | _, _, .cons r t, h => by
    rw [List.all_cons, Bool.and_eq_true] at h
    rw [List.countP_cons, List.countP_cons, countP_rel t h.2, eqU_of r h.1]
theorem mt_count : MtR X "list.count" (rCount X.K) := by
  intro pins s σ H x xs v us Q I rx rxs h
  obtain ⟨a, ys, y, rfl, rfl, hs, fy, fys, q⟩ := h
  cases rx
  cases rxs with
  | cons ry rt =>
    rename_i uy ut
    cases rt
    obtain ⟨its, rv, ⟨⟨cls, dd, data, sl⟩, n, ho, hc, hdn, hd⟩, hlen⟩ := I.list hs
    simp only at hc hd
    subst hc hd
    refine call_meets PySem.F.slot_list_count ⟨_, ho, rfl⟩ PySem.F.entry_list_count (PySem.F.args_list_count_2 _ _)
      (SeqAt.list_countAt a its.toArray n dd sl uy (eqU y)) ⟨ho, fun u' hu' => mem_eqAt ry fy rv fys u' (by simpa using hu'), ?_⟩
    refine ⟨.int ((ys.countP fun z => eqV z y : Nat) : Int), H, I.tok _, ⟨s.toks, ?_⟩, q⟩
    rw [← countP_rel rv fys]
def vCount (t te : TDE) : TDE := fun ρ q => t ρ fun d => ∃ xs, lstOf d xs ∧ te ρ fun y => xs.all flatD = true ∧ flatD y = true ∧ q (.int (((xs.map dvOf).countP fun z => eqV z (dvOf y) : Nat) : Int))
def vIndex (t te : TDE) : TDE := fun ρ q => t ρ fun d => ∃ xs, lstOf d xs ∧ te ρ fun y => xs.all flatD = true ∧ flatD y = true ∧ ∃ (j : Nat) (z : V), (xs.map dvOf)[j]? = some z ∧ eqV z (dvOf y) = true ∧ (∀ (m : Nat) (z' : V), m < j → (xs.map dvOf)[m]? = some z' → eqV z' (dvOf y) = false) ∧ q (.int (j : Nat))
theorem flats {K : PySem.W.Frag} {p : List Addr} {H : Hp} {vs : List V} {ds : List D} (r : RepAll K p H vs ds) (h : ds.all flatD = true) : vs = ds.map dvOf ∧ vs.all flatV = true := by
  obtain ⟨rfl, h2⟩ := flat_all r h
  exact ⟨rfl, h2⟩
theorem d_count {o e : Expr} {apos : Pos} {t te : TDE} (ho : EE X R o t) (he : EE X R e te) (hs : starEach [e] X.env = (false, eval e X.env) :: starEach [] X.env := by rfl) (hbase : attributeBase o "count" X.env (eval o X.env) = eval o X.env := by rfl)
    (hfew : ((backTo pos (starEach [e] X.env)).all (fun x => !x.1) && (backToKw pos (keywordEach [] X.env)).all (fun x => x.1.isSome) && decide ([e].length + ([] : List Keyword).length + (if ([] : List Keyword).isEmpty then 0 else 1) < 30)) = true := by rfl)
    (hline : (apos.endLine == pos.line) = true := by rfl) (hpl : (backTo pos (starEach [] X.env)).any (·.1) = false := by rfl) : EE X R (.Call (.Attribute o "count" apos) [e] [] pos) (vCount t te) :=
  PE_imp (pe_bm PySem.F.plainAttrs_list PySem.F.slot_list_count PySem.F.type_list_count mt_count ho (pa_cons he pa_nil hs) hbase hfew hline hs hpl) fun σ H Q ⟨ρ, q, r, o, w, f⟩ => by
    refine ⟨ρ, _, r, o, w, ?_⟩
    rintro d v H1 ⟨xs, hx, w1⟩ r1 e1 o1
    obtain ⟨a, vs, rfl, ha, ra⟩ := rep_lst r1 hx
    refine ⟨.inl ⟨rfl, vs, .of ha⟩, ρ, _, r.mono e1, o1, w1, ?_⟩
    rintro y u H2 ⟨f1, f2, w2⟩ r2 e2 o2
    obtain ⟨rfl, g1⟩ := flats ra f1
    obtain ⟨rfl, g2⟩ := flat_eq r2 f2
    obtain ⟨a', vs', ea, ha', ra'⟩ := rep_lst (r1.mono e2) hx
    cases ea
    obtain ⟨rfl, _⟩ := flats ra' f1
    exact ⟨a, _, _, rfl, rfl, .of ha', g2, g1, f _ _ H2 w2 (.int _) (e1.trans e2) o2⟩
theorem d_index {o e : Expr} {apos : Pos} {t te : TDE} (ho : EE X R o t) (he : EE X R e te) (hs : starEach [e] X.env = (false, eval e X.env) :: starEach [] X.env := by rfl) (hbase : attributeBase o "index" X.env (eval o X.env) = eval o X.env := by rfl)
    (hfew : ((backTo pos (starEach [e] X.env)).all (fun x => !x.1) && (backToKw pos (keywordEach [] X.env)).all (fun x => x.1.isSome) && decide ([e].length + ([] : List Keyword).length + (if ([] : List Keyword).isEmpty then 0 else 1) < 30)) = true := by rfl)
    (hline : (apos.endLine == pos.line) = true := by rfl) (hpl : (backTo pos (starEach [] X.env)).any (·.1) = false := by rfl) : EE X R (.Call (.Attribute o "index" apos) [e] [] pos) (vIndex t te) :=
  PE_imp (pe_bm PySem.F.plainAttrs_list PySem.F.slot_list_index PySem.F.type_list_index mt_index ho (pa_cons he pa_nil hs) hbase hfew hline hs hpl) fun σ H Q ⟨ρ, q, r, o, w, f⟩ => by
    refine ⟨ρ, _, r, o, w, ?_⟩
    rintro d v H1 ⟨xs, hx, w1⟩ r1 e1 o1
    obtain ⟨a, vs, rfl, ha, ra⟩ := rep_lst r1 hx
    refine ⟨.inl ⟨rfl, vs, .of ha⟩, ρ, _, r.mono e1, o1, w1, ?_⟩
    rintro y u H2 ⟨f1, f2, j, z, h1, h2, h3, w2⟩ r2 e2 o2
    obtain ⟨rfl, g1⟩ := flats ra f1
    obtain ⟨rfl, g2⟩ := flat_eq r2 f2
    obtain ⟨a', vs', ea, ha', ra'⟩ := rep_lst (r1.mono e2) hx
    cases ea
    obtain ⟨rfl, _⟩ := flats ra' f1
    exact ⟨a, _, _, j, z, rfl, rfl, .of ha', g2, g1, h1, h2, h3, f _ _ H2 w2 (.int _) (e1.trans e2) o2⟩
/-- y = [elt for x in iter] -/
theorem s_setLc {i j : Nat} {x y : Str} {px py spos : Pos} {elt iter : Expr} {scope : Scope} {w : TDI} {te : TDE} (hc : X.calm = true) (nd : X.N.Nodup) (hi : EI X R (.Name x px) iter w) (ok : BlkOk X.N X.env.scope scope [(x, i)])
    (hg : ∀ (s : Shared) (H : Hp) (C : Addr) (cl : List (Str × Addr)) (fp : List Addr), PG (X.blk s H scope (compEnvC scope cl C X.env) fp) (.Name x px) (gName i))
    (he : ∀ (s : Shared) (H : Hp) (C : Addr) (cl : List (Str × Addr)) (fp : List Addr) (A : Addr), EE (X.blk s H scope (compEnvC scope cl C X.env) fp) (R.add A) elt te) (hs : ∀ x, foldedSetIterable iter X.env x = pure x := by intro _; rfl)
    (hy : X.N[j]? = some y := by rfl) (hyl : X.env.scope.names.lookup y = some .local := by rfl) (hk : X.env.scope.kind = .function := by rfl) (hl : (py.line == pos.line) = true := by rfl) (ha : (scope.names.any fun (n, k) => n == y && (k == .local || k == .cell)) = false := by decide +kernel) :
    ES X R (.Assign [.Name y py] (.ListComp elt [⟨.Name x px, iter, [], 0⟩] scope pos) spos) (sSet j (vLc i w te)) :=
  PS_imp (ps_setLc (own := [(x, i)]) (g := gName i) (tt := tYes) (te := tEl X.K R te) hc nd hy hyl (sw_true hk hyl hl ha) hi ok hg (fun _ _ _ _ _ => pts_nil) (fun s H C cl fp => ⟨fun pins s' σ H' Q I ⟨A, w⟩ => (he s H C cl fp A).run pins s' σ H' Q I w⟩) hs) fun E σ H ⟨ρ, en, r, o, w, f⟩ =>
    lc_ok σ H _ ⟨ρ, _, r, o, w, fun d v H1 w1 r1 e1 o1 => f.nx _ _ H1 w1 ((r.mono e1).set r1 j) e1 o1⟩
end
end Dl

set_option Elab.async false
set_option linter.all false
set_option maxRecDepth 100000
set_option maxHeartbeats 4000000
namespace Dl
open PySem PySem.Spec PyProof.Rows L2
/-! ## more of texts -/
section
variable {X : Cx} {R : Res} {pos : Pos}
/-- a text's method of one text: g tells the answer -/
def vMt (op : Str → Str → (D → Prop) → Prop) (t te : TDE) : TDE := fun ρ q => t ρ fun d => ∃ a, d = .str a ∧ te ρ fun y => ∃ b, y = .str b ∧ op a b q
theorem d_mtS {name : Str} {id : String} {r : V → List V → Hp → VK → Prop} {op : Str → Str → (D → Prop) → Prop} {o e : Expr} {apos : Pos} {t te : TDE} (slot : Slot "str" name id) (hty : typeOf (.builtin id) = pure (.type "method_descriptor")) (hm : MtR X id r)
    (hop : ∀ (a b : Str) H q Q, Pot R H → op a b q → Fin X.K R H q Q → r (.str a) [.str b] H Q) (ho : EE X R o t) (he : EE X R e te) (hs : starEach [e] X.env = (false, eval e X.env) :: starEach [] X.env := by rfl) (hbase : attributeBase o name X.env (eval o X.env) = eval o X.env := by rfl)
    (hfew : ((backTo pos (starEach [e] X.env)).all (fun x => !x.1) && (backToKw pos (keywordEach [] X.env)).all (fun x => x.1.isSome) && decide ([e].length + ([] : List Keyword).length + (if ([] : List Keyword).isEmpty then 0 else 1) < 30)) = true := by rfl)
    (hline : (apos.endLine == pos.line) = true := by rfl) (hpl : (backTo pos (starEach [] X.env)).any (·.1) = false := by rfl) : EE X R (.Call (.Attribute o name apos) [e] [] pos) (vMt op t te) :=
  PE_imp (pe_bm PySem.F.plainAttrs_str slot hty hm ho (pa_cons he pa_nil hs) hbase hfew hline hs hpl) fun σ H Q ⟨ρ, q, r, o, w, f⟩ => by
    refine ⟨ρ, _, r, o, w, ?_⟩
    rintro d v H1 ⟨a, rfl, w1⟩ r1 e1 o1
    cases r1
    refine ⟨rfl, ρ, _, r.mono e1, o1, w1, ?_⟩
    rintro y u H2 ⟨b, rfl, w2⟩ r2 e2 o2
    cases r2
    exact hop a b H2 q Q o2 w2 (f.step (e1.trans e2))
theorem new_strs {K : PySem.W.Frag} {H : Hp} {a : Addr} (ys : List Str) (n : H a = none) (o : Pot R H) : Rep K R.av (upd H a (.lst (ys.map V.str))) (.ref a) (.seq (ys.map D.str)) := by
  refine new_seq ?_ n o
  induction ys with
  | nil => exact .nil
  | cons y ys ih => exact .cons (.str y) ih
def findS : Str → Str → (D → Prop) → Prop := fun a b q => q (.int (Txt.find a b))
def splitS : Str → Str → (D → Prop) → Prop := fun a b q => (b.length == 0) = false ∧ a.length + 2 ≤ sizeLine ∧ q (.seq ((Txt.split a b).map D.str))
def startS : Str → Str → (D → Prop) → Prop := fun a b q => q (.bl (Txt.startswith a b))
def endS : Str → Str → (D → Prop) → Prop := fun a b q => q (.bl (Txt.endswith a b))
def countS : Str → Str → (D → Prop) → Prop := fun a b q => q (.int (Txt.count a b))
theorem op_find (a b : Str) (H : Hp) (q : D → Prop) (Q : VK) (o : Pot R H) (w : findS a b q) (f : Fin X.K R H q Q) : ∃ a' b', V.str a = .str a' ∧ [V.str b] = [.str b'] ∧ Q (.int (Txt.find a' b')) H := ⟨a, b, rfl, rfl, f _ _ H w (.int _) (Ext.refl _ _) o⟩
theorem op_start (a b : Str) (H : Hp) (q : D → Prop) (Q : VK) (o : Pot R H) (w : startS a b q) (f : Fin X.K R H q Q) : ∃ a' b', V.str a = .str a' ∧ [V.str b] = [.str b'] ∧ Q (.bl (Txt.startswith a' b')) H := ⟨a, b, rfl, rfl, f _ _ H w (.bl _) (Ext.refl _ _) o⟩
theorem op_end (a b : Str) (H : Hp) (q : D → Prop) (Q : VK) (o : Pot R H) (w : endS a b q) (f : Fin X.K R H q Q) : ∃ a' b', V.str a = .str a' ∧ [V.str b] = [.str b'] ∧ Q (.bl (Txt.endswith a' b')) H := ⟨a, b, rfl, rfl, f _ _ H w (.bl _) (Ext.refl _ _) o⟩
theorem op_countS (a b : Str) (H : Hp) (q : D → Prop) (Q : VK) (o : Pot R H) (w : countS a b q) (f : Fin X.K R H q Q) : ∃ a' b', V.str a = .str a' ∧ [V.str b] = [.str b'] ∧ Q (.int (Txt.count a' b')) H := ⟨a, b, rfl, rfl, f _ _ H w (.int _) (Ext.refl _ _) o⟩
theorem op_split (a b : Str) (H : Hp) (q : D → Prop) (Q : VK) (o : Pot R H) (w : splitS a b q) (f : Fin X.K R H q Q) : ∃ a' b', V.str a = .str a' ∧ [V.str b] = [.str b'] ∧ (b'.length == 0) = false ∧ a'.length + 2 ≤ sizeLine ∧ rNewStrs (Txt.split a' b') H Q :=
  ⟨a, b, rfl, rfl, w.1, w.2.1, fun p n => f _ _ _ w.2.2 (new_strs _ n o) (Ext.new n) (o.new n)⟩
/-! ### str of an int, of a text -/
def strI : DCall := fun ds q => ∃ i, ds = [.int i] ∧ i.natAbs.log2 < 1920 ∧ q (.str (toString i))
theorem cd_strI {K : PySem.W.Frag} : CallD K R (fun xs H Q => ∃ i, xs = [.int i] ∧ i.natAbs.log2 < 1920 ∧ Q (.str (toString i)) H) strI := by
  rintro xs ds H q Q r o ⟨i, rfl, hi, w⟩ f
  obtain ⟨x, rfl, rx⟩ := r.one
  cases rx
  exact ⟨i, rfl, hi, f _ _ H w (.str _) (Ext.refl _ _) o⟩
def intS : DCall := fun ds q => ∃ a n, ds = [.str a] ∧ PySem.intText? a = some n ∧ a.length ≤ 640 ∧ q (.int n)
theorem cd_intS {K : PySem.W.Frag} : CallD K R (fun xs H Q => ∃ a n, xs = [.str a] ∧ PySem.intText? a = some n ∧ a.length ≤ 640 ∧ Q (.int n) H) intS := by
  rintro xs ds H q Q r o ⟨a, n, rfl, hn, ha, w⟩ f
  obtain ⟨x, rfl, rx⟩ := r.one
  cases rx
  exact ⟨a, n, rfl, hn, ha, f _ _ H w (.int _) (Ext.refl _ _) o⟩
/-! ### is None -/
def isNonD : D → Bool | .non => true | _ => false
theorem rep_non {K : PySem.W.Frag} {p : List Addr} {H : Hp} {v : V} {d : D} (r : Rep K p H v d) : decide (v = .non) = isNonD d := by
  cases r <;> first | rfl | exact decide_eq_false (fun e => nomatch e)
def isND (neg : Bool) : DOp := fun dx dy q => dy = .non ∧ q (.bl (if neg then !isNonD dx else isNonD dx))
theorem opd_isN {K : PySem.W.Frag} : OpD K R (fun x y H Q => y = .non ∧ Q (.bl (decide (x = .non))) H) (isND false) := by
  rintro x y dx dy H q Q rx ry o ⟨rfl, w⟩ f
  cases ry
  exact ⟨rfl, by rw [rep_non rx]; exact f _ _ H w (.bl _) (Ext.refl _ _) o⟩
theorem opd_notN {K : PySem.W.Frag} : OpD K R (fun x y H Q => y = .non ∧ Q (.bl (!decide (x = .non))) H) (isND true) := by
  rintro x y dx dy H q Q rx ry o ⟨rfl, w⟩ f
  cases ry
  exact ⟨rfl, by rw [rep_non rx]; exact f _ _ H w (.bl _) (Ext.refl _ _) o⟩
end
/-! ### == and != of plain data, however deep (no dicts) -/
mutual
/-- no dicts -/
def D.nod : D → Bool
  | .tup xs => D.nods xs
  | .lst xs => D.nods xs
  | .emp => false
  | .ptr _ => false
  | .seq _ => false
  | .ty _ => false
  | _ => true
def D.nods : List D → Bool
  | [] => true
  | x :: xs => D.nod x && D.nods xs
end
section
variable {K : PySem.W.Frag} {p : List Addr} {H : Hp}
mutual
theorem Rep.deep : ∀ (d : D) (v : V), d.nod = true → Rep K p H v d → Dp K H v d.py
  | .non, _, _, r => by cases r; simp only [D.py]; exact .non
  | .bl _, _, _, r => by cases r; simp only [D.py]; exact .bl _
  | .int _, _, _, r => by cases r; simp only [D.py]; exact .int _
  | .str _, _, _, r => by cases r; simp only [D.py]; exact .str _
  | .tup xs, _, h, r => by
    simp only [D.nod] at h
    cases r with
    | tup hs ra => simp only [D.py]; exact .tup hs.sq (Rep.deeps xs _ h ra)
  | .lst xs, _, h, r => by
    simp only [D.nod] at h
    cases r with
    | lst hs _ _ ra => simp only [D.py]; exact .lst (.of hs) (Rep.deeps xs _ h ra)
  | .emp, _, h, _ => by simp only [D.nod] at h; cases h
  | .ptr _, _, h, _ => by simp only [D.nod] at h; cases h
  | .seq _, _, h, _ => by simp only [D.nod] at h; cases h
  | .ty _, _, h, _ => by simp only [D.nod] at h; cases h
theorem Rep.deeps : ∀ (ds : List D) (vs : List V), D.nods ds = true → RepAll K p H vs ds → DpAll K H vs (D.pys ds)
  | [], _, _, r => by cases r; simp only [D.pys]; exact .nil
  | d :: ds, _, h, r => by
    simp only [D.nods, Bool.and_eq_true] at h
    cases r with
    | cons r t => simp only [D.pys]; exact .cons (Rep.deep d _ h.1 r) (Rep.deeps ds _ h.2 t)
end
end
section
variable {X : Cx} {R : Res}
def eqPD (neg : Bool) : DOp := fun dx dy q => dx.nod = true ∧ dy.nod = true ∧ SeqAt.shaped dx.py = true ∧ SeqAt.shaped dy.py = true ∧ q (.bl (if neg then !PyData.eqv dx.py dy.py else PyData.eqv dx.py dy.py))
theorem opd_eqP : OpD X.K R (rEqD X.K) (eqPD false) := by
  rintro x y dx dy H q Q rx ry o ⟨n1, n2, s1, s2, w⟩ f
  exact ⟨_, _, Rep.deep _ _ n1 rx, Rep.deep _ _ n2 ry, s1, s2, f _ _ H w (.bl _) (Ext.refl _ _) o⟩
theorem opd_neP : OpD X.K R (rNeD X.K) (eqPD true) := by
  rintro x y dx dy H q Q rx ry o ⟨n1, n2, s1, s2, w⟩ f
  exact ⟨_, _, Rep.deep _ _ n1 rx, Rep.deep _ _ n2 ry, s1, s2, f _ _ H w (.bl _) (Ext.refl _ _) o⟩
end
end Dl

set_option Elab.async false
set_option linter.all false
set_option maxRecDepth 100000
set_option maxHeartbeats 4000000
/-! rsplit at the last two places of a sign -/
namespace Dl
open PySem PySem.Spec PyProof.Rows PySem.StrLaws PySem.Builtin PySem.Builtin.Str L2 TL
section
variable {s : Str} {c lim : Nat}
theorem one_len : (⟨#[c]⟩ : Str).length = 1 := rfl
theorem at_c {i : Nat} : At s ⟨#[c]⟩ s.length i ↔ s.cps.toList[i]? = some c := subAt_one s c i
theorem rrun_none : ∀ (m k : Nat) (st : Array Nat × Nat), st.snd ≤ s.length → (∀ j, k ≤ j → j < k + m → ¬ At s ⟨#[c]⟩ s.length (s.length - j)) → (forIn (List.range' k m) st (occRBody s ⟨#[c]⟩ lim)).run = st
  | 0, k, st, _, _ => rfl
  | m + 1, k, st, hs, hn => by
    rw [List.range'_succ, List.forIn_cons]
    unfold occRBody
    split
    · rename_i hc
      have h1 := hc.1.2
      rw [one_len] at h1
      exact absurd ⟨by rw [one_len]; omega, hc.2⟩ (hn k (Nat.le_refl _) (by omega))
    · exact rrun_none m (k + 1) st hs fun j h1 h2 => hn j (by omega) (by omega)
theorem rrun_full : ∀ (m k : Nat) (st : Array Nat × Nat), lim ≤ st.fst.size → (forIn (List.range' k m) st (occRBody s ⟨#[c]⟩ lim)).run = st
  | 0, k, st, _ => rfl
  | m + 1, k, st, hs => by
    rw [List.range'_succ, List.forIn_cons]
    unfold occRBody
    split
    · rename_i hc
      have h1 := hc.1.1
      omega
    · exact rrun_full m (k + 1) st hs
theorem rrun_to : ∀ (m k r : Nat) (st : Array Nat × Nat), st.fst.size < lim → st.snd ≤ s.length → (∀ j, k ≤ j → j < k + m → ¬ At s ⟨#[c]⟩ s.length (s.length - j)) → At s ⟨#[c]⟩ s.length (s.length - (k + m)) → s.length - (k + m) + 1 ≤ st.snd →
    (forIn (List.range' k (m + 1 + r)) st (occRBody s ⟨#[c]⟩ lim)).run = (forIn (List.range' (k + m + 1) r) (st.fst.push (s.length - (k + m)), s.length - (k + m)) (occRBody s ⟨#[c]⟩ lim)).run
  | 0, k, r, st, hl, hs, hn, ha, hf => by
    have e : 0 + 1 + r = r + 1 := by omega
    rw [e, List.range'_succ, List.forIn_cons]
    unfold occRBody
    rw [if_pos ⟨⟨hl, hf⟩, ha.2⟩]
    rfl
  | m + 1, k, r, st, hl, hs, hn, ha, hf => by
    have e : m + 1 + 1 + r = (m + 1 + r) + 1 := by omega
    have e2 : k + (m + 1) = (k + 1) + m := by omega
    have go := rrun_to m (k + 1) r st hl hs (fun j h1 h2 => hn j (by omega) (by omega)) (by rw [← e2]; exact ha) (by rw [← e2]; exact hf)
    rw [← e2] at go
    rw [e, List.range'_succ, List.forIn_cons, ← go]
    unfold occRBody
    split
    · rename_i hc
      have h1 := hc.1.2
      rw [one_len] at h1
      exact absurd ⟨by rw [one_len]; omega, hc.2⟩ (hn k (Nat.le_refl _) (by omega))
    · rfl
end
theorem tl_one (c : Nat) : tl (⟨#[c]⟩ : Str) = [c] := rfl
section
variable {x : Str} {c : Nat}
theorem not_at {i : Nat} (h : (tl x)[i]? ≠ some c) : ¬ At x ⟨#[c]⟩ x.length i := fun q => h (at_c.mp q)
/-- where the sign stands last -/
theorem occR2 {a b1 b2 : List Nat} (e : tl x = a ++ (c :: (b1 ++ (c :: b2)))) (n1 : c ∉ b1) (n2 : c ∉ b2) : occurrencesFromRight x ⟨#[c]⟩ 2 = [a.length, a.length + 1 + b1.length] := by
  have hl : x.length = a.length + 1 + b1.length + 1 + b2.length := by
    rw [len_tl x, e]; simp; omega
  have g2 : ∀ j, a.length + 1 + b1.length < j → (tl x)[j]? ≠ some c := fun j hj q => by
    rw [e] at q
    have e' : a ++ (c :: (b1 ++ (c :: b2))) = (a ++ (c :: (b1 ++ [c]))) ++ b2 := by simp
    rw [e', List.getElem?_append_right (by simp; omega)] at q
    exact n2 (List.mem_of_getElem? q)
  have g1 : ∀ j, a.length < j → j < a.length + 1 + b1.length → (tl x)[j]? ≠ some c := fun j hj hj2 q => by
    rw [e] at q
    have e' : a ++ (c :: (b1 ++ (c :: b2))) = ((a ++ [c]) ++ b1) ++ (c :: b2) := by simp
    rw [e', List.getElem?_append_left (by simp; omega), List.getElem?_append_right (by simp; omega)] at q
    exact n1 (List.mem_of_getElem? q)
  have at2 : At x ⟨#[c]⟩ x.length (a.length + 1 + b1.length) := at_c.mpr (by
    show (tl x)[_]? = _
    rw [e]
    have e' : a ++ (c :: (b1 ++ (c :: b2))) = (a ++ (c :: b1)) ++ (c :: b2) := by simp
    rw [e', List.getElem?_append_right (by simp; omega)]
    have : a.length + 1 + b1.length - (a ++ c :: b1).length = 0 := by simp; omega
    rw [this]; rfl)
  have at1 : At x ⟨#[c]⟩ x.length a.length := at_c.mpr (by
    show (tl x)[_]? = _
    rw [e, List.getElem?_append_right (Nat.le_refl _), Nat.sub_self]; rfl)
  rw [occR_eq]
  have r1 := rrun_to (s := x) (c := c) (lim := 2) b2.length.succ 0 (a.length + b1.length + 1) (#[], x.length) (by show 0 < 2; omega) (Nat.le_refl _)
    (fun j _ h2 => not_at (g2 _ (by omega))) (by
      have : x.length - (0 + b2.length.succ) = a.length + 1 + b1.length := by omega
      rw [this]; exact at2) (by show _ ≤ x.length; omega)
  have e0 : x.length + 1 = b2.length.succ + 1 + (a.length + b1.length + 1) := by omega
  rw [e0, r1]
  have e1 : x.length - (0 + b2.length.succ) = a.length + 1 + b1.length := by omega
  rw [e1]
  have r2 := rrun_to (s := x) (c := c) (lim := 2) b1.length (0 + b2.length.succ + 1) a.length (#[a.length + 1 + b1.length], a.length + 1 + b1.length) (by show 1 < 2; omega) (by show a.length + 1 + b1.length ≤ _; omega)
    (fun j h1 h2 => not_at (g1 _ (by omega) (by omega))) (by
      have : x.length - (0 + b2.length.succ + 1 + b1.length) = a.length := by omega
      rw [this]; exact at1) (by show _ ≤ a.length + 1 + b1.length; omega)
  have e2 : a.length + b1.length + 1 = b1.length + 1 + a.length := by omega
  have e3 : x.length - (0 + b2.length.succ + 1 + b1.length) = a.length := by omega
  rw [e3] at r2
  rw [e2]
  show (forIn (List.range' (0 + b2.length.succ + 1) (b1.length + 1 + a.length)) ((#[a.length + 1 + b1.length], a.length + 1 + b1.length) : Array Nat × Nat) (occRBody x ⟨#[c]⟩ 2)).run.fst.toList.reverse = _
  rw [r2, rrun_full _ _ _ (by show 2 ≤ 2; omega)]
  rfl
theorem occR1 {a b : List Nat} (e : tl x = a ++ (c :: b)) (n1 : c ∉ a) (n2 : c ∉ b) : occurrencesFromRight x ⟨#[c]⟩ 2 = [a.length] := by
  have hl : x.length = a.length + 1 + b.length := by
    rw [len_tl x, e]; simp; omega
  have g2 : ∀ j, a.length < j → (tl x)[j]? ≠ some c := fun j hj q => by
    rw [e] at q
    have e' : a ++ (c :: b) = (a ++ [c]) ++ b := by simp
    rw [e', List.getElem?_append_right (by simp; omega)] at q
    exact n2 (List.mem_of_getElem? q)
  have g1 : ∀ j, j < a.length → (tl x)[j]? ≠ some c := fun j hj q => by
    rw [e, List.getElem?_append_left hj] at q
    exact n1 (List.mem_of_getElem? q)
  have at1 : At x ⟨#[c]⟩ x.length a.length := at_c.mpr (by
    show (tl x)[_]? = _
    rw [e, List.getElem?_append_right (Nat.le_refl _), Nat.sub_self]; rfl)
  rw [occR_eq]
  have r1 := rrun_to (s := x) (c := c) (lim := 2) b.length.succ 0 a.length (#[], x.length) (by show 0 < 2; omega) (Nat.le_refl _)
    (fun j _ h2 => not_at (g2 _ (by omega))) (by
      have : x.length - (0 + b.length.succ) = a.length := by omega
      rw [this]; exact at1) (by show _ ≤ x.length; omega)
  have e0 : x.length + 1 = b.length.succ + 1 + a.length := by omega
  have e1 : x.length - (0 + b.length.succ) = a.length := by omega
  rw [e1] at r1
  rw [e0, r1, rrun_none _ _ _ (by show a.length ≤ _; omega) (fun j h1 h2 => not_at (g1 _ (by omega)))]
  rfl
theorem occR0 (n : c ∉ tl x) : occurrencesFromRight x ⟨#[c]⟩ 2 = [] := by
  rw [occR_eq, rrun_none _ _ _ (Nat.le_refl _) (fun j h1 h2 => not_at fun q => n (List.mem_of_getElem? q))]
  rfl
theorem kind_c (hc : c < 256) : ¬ strKind x < strKind ⟨#[c]⟩ := kind_ok (by simp [hc])
theorem lim2 : limitOf x 2 = 2 := rfl
theorem rsplit2 {a b1 b2 : Str} (hc : c < 256) (e : x = a ++ ⟨#[c]⟩ ++ b1 ++ ⟨#[c]⟩ ++ b2) (n1 : c ∉ tl b1) (n2 : c ∉ tl b2) : Txt.rsplitMax x ⟨#[c]⟩ 2 = [a, b1, b2] := by
  have et : tl x = tl a ++ (c :: (tl b1 ++ (c :: tl b2))) := by rw [e]; simp [tl_append, tl_one]
  unfold Txt.rsplitMax
  have hl : x.length = (tl a).length + 1 + (tl b1).length + 1 + (tl b2).length := by
    rw [len_tl x, et]; simp; omega
  rw [if_neg (by
    intro q
    simp only [Bool.or_eq_true, decide_eq_true_eq] at q
    rcases q with q | q
    · rw [one_len] at q; omega
    · exact kind_c hc q), lim2, occR2 et n1 n2, if_neg (by simp), partsBetween_eq]
  show [strSub x 0 (tl a).length, strSub x ((tl a).length + 1) ((tl a).length + 1 + (tl b1).length), strSub x ((tl a).length + 1 + (tl b1).length + 1) x.length] = _
  have s1 : strSub x 0 (tl a).length = a := ext_tl (by rw [tl_strSub, et, List.drop_zero, Nat.sub_zero, List.take_left])
  have s2 : strSub x ((tl a).length + 1) ((tl a).length + 1 + (tl b1).length) = b1 := ext_tl (by
    rw [tl_strSub, et]
    have e' : tl a ++ (c :: (tl b1 ++ (c :: tl b2))) = (tl a ++ [c]) ++ (tl b1 ++ (c :: tl b2)) := by simp
    have e2 : (tl a).length + 1 = (tl a ++ [c]).length := by simp
    rw [e', e2, List.drop_left, Nat.add_sub_cancel_left, List.take_left])
  have s3 : strSub x ((tl a).length + 1 + (tl b1).length + 1) x.length = b2 := ext_tl (by
    rw [tl_strSub_end, et]
    have e' : tl a ++ (c :: (tl b1 ++ (c :: tl b2))) = (tl a ++ (c :: (tl b1 ++ [c]))) ++ tl b2 := by simp
    have e2 : (tl a).length + 1 + (tl b1).length + 1 = (tl a ++ (c :: (tl b1 ++ [c]))).length := by simp; omega
    rw [e', e2, List.drop_left])
  rw [s1, s2, s3]
/-- where it stands less than twice -/
theorem rsplit2_few (hc : c < 256) (h : (tl x).count c < 2) : (Txt.rsplitMax x ⟨#[c]⟩ 2).length < 3 := by
  unfold Txt.rsplitMax
  split
  · show 1 < 3; omega
  rw [lim2]
  split
  · show 1 < 3; omega
  rw [length_partsBetween]
  by_cases hm : c ∈ tl x
  · obtain ⟨a, b, e⟩ := List.append_of_mem hm
    have ca : (tl x).count c = a.count c + (1 + b.count c) := by rw [e]; simp; omega
    rw [occR1 e (fun q => by have := List.count_pos_iff.mpr q; omega) (fun q => by have := List.count_pos_iff.mpr q; omega)]
    show 1 + 1 < 3
    omega
  · rw [occR0 hm]
    show 0 + 1 < 3
    omega
end
end Dl

set_option Elab.async false
set_option linter.all false
set_option maxRecDepth 100000
set_option maxHeartbeats 4000000
namespace Dl
open PySem PySem.Spec PyProof.Rows L2
/-! ## f-strings, op=, partition, rsplit, enumerate over a text, a statement that is not reached -/
section
variable {X : Cx} {R : Res} {W : WX} {pos : Pos}
def vFmt (t : TDE) : TDE := fun ρ q => t ρ fun d => (∃ y : Str, d = .str y ∧ y.length ≤ sizeLine ∧ q (.str y)) ∨ ∃ i : Int, d = .int i ∧ i.natAbs.log2 < 1920 ∧ q (.str (toString i))
theorem d_fmt {e : Expr} {t : TDE} (he : EE X R e t) : EE X R (.FormattedValue e (-1) none pos) (vFmt t) := PE_imp (pe_fmt he) fun σ H Q ⟨ρ, q, r, o, w, f⟩ => by
  refine ⟨ρ, _, r, o, w, ?_⟩
  rintro d v H1 w1 r1 e1 o1
  rcases w1 with ⟨y, rfl, hz, w1⟩ | ⟨i, rfl, hz, w1⟩
  · cases r1
    exact .inl ⟨y, rfl, hz, f _ _ H1 w1 (.str _) e1 o1⟩
  · cases r1
    exact .inr ⟨i, rfl, hz, f _ _ H1 w1 (.str _) e1 o1⟩
/-- the parts, one after another -/
def vJs : List TDE → Str → TDE
  | [], acc, _, q => q (.str acc)
  | t :: ts, acc, ρ, q => t ρ fun d => ∃ y : Str, d = .str y ∧ (acc ++ y).length ≤ sizeLine ∧ vJs ts (acc ++ y) ρ q
inductive EJ (X : Cx) (R : Res) : List Expr → List TDE → Prop where
  | nil : EJ X R [] []
  | cons {e : Expr} {t : TDE} {es : List Expr} {ts : List TDE} (h : EE X R e t) (r : EJ X R es ts) : EJ X R (e :: es) (t :: ts)
theorem EJ.pj {es : List Expr} {ts : List TDE} (h : EJ X R es ts) : PJ X es (ts.map (tD X.K R)) := by
  induction h with
  | nil => exact .nil
  | cons h r ih => exact .cons h ih
theorem js_ok {K : PySem.W.Frag} : ∀ (ts : List TDE) (acc : Str) (σ : L2.St) (ρ : DE) (H : Hp) (q : D → Prop) (Q : VK), REnv K R.av H σ ρ → Pot R H → vJs ts acc ρ q → Fin K R H q Q → tJs (ts.map (tD K R)) acc σ H (fun out H1 => Q (.str out) H1)
  | [], acc, σ, ρ, H, q, Q, r, o, w, f => f _ _ H w (.str _) (Ext.refl _ _) o
  | t :: ts, acc, σ, ρ, H, q, Q, r, o, w, f => by
    refine ⟨ρ, _, r, o, w, ?_⟩
    rintro d v H1 ⟨y, rfl, hz, w1⟩ r1 e1 o1
    cases r1
    exact ⟨y, rfl, hz, js_ok ts _ σ ρ H1 q Q (r.mono e1) o1 w1 (f.step e1)⟩
theorem d_joined {v1 v2 : Expr} {rest : List Expr} {ts : List TDE} (h : EJ X R (v1 :: v2 :: rest) ts) : EE X R (.JoinedStr (v1 :: v2 :: rest) pos) (vJs ts Str.empty) :=
  PE_imp (pe_joined h.pj) fun σ H Q ⟨ρ, q, r, o, w, f⟩ => js_ok ts _ σ ρ H q Q r o w f
theorem d_joined1 {e : Expr} {t : TDE} (h : EE X R e t) : EE X R (.JoinedStr [e] pos) t := pe_joined1 h
/-! ### x += e -/
def sAug (i : Nat) (t : TDE) : TDS := fun e ρ => ∃ a : Int, ρ[i]? = some (some (.int a)) ∧ t ρ fun d => ∃ b : Int, d = .int b ∧ e.nx (ρ.set i (some (.int (a + b))))
theorem s_aug {i : Nat} {x : Str} {e : Expr} {t : TDE} {px : Pos} (nd : X.N.Nodup) (he : EE X R e t) (hi : X.N[i]? = some x := by rfl) (hx : Loc X.env.scope x := by first | exact Or.inl rfl | exact Or.inr rfl) (hf : X.fn x = true ∨ X.env.scope.names.lookup x = some .local := by first | exact .inl rfl | exact .inr rfl) :
    ES X R (.AugAssign (.Name x px) .Add e pos) (sAug i t) := PS_imp (ps_aug nd hi hx he ip_add hf) fun E σ H ⟨ρ, en, r, o, ⟨a, h1, w⟩, f⟩ => by
  obtain ⟨v, hv, rv⟩ := r.get h1
  cases rv
  refine ⟨_, hv, ρ, _, r, o, w, ?_⟩
  rintro d u H1 ⟨b, rfl, w1⟩ r1 e1 o1
  cases r1
  exact ⟨a, b, rfl, rfl, f.nx _ _ H1 w1 ((r.mono e1).set (.int _) i) e1 o1⟩
/-! ### partition, rsplit -/
def partS : Str → Str → (D → Prop) → Prop := fun a b q => (b.length == 0) = false ∧ a.length ≤ sizeLine ∧ q (.tup [.str (Txt.partition a b).1, .str (Txt.partition a b).2.1, .str (Txt.partition a b).2.2])
theorem op_part (a b : Str) (H : Hp) (q : D → Prop) (Q : VK) (o : Pot R H) (w : partS a b q) (f : Fin X.K R H q Q) : ∃ a' b', V.str a = .str a' ∧ [V.str b] = [.str b'] ∧ (b'.length == 0) = false ∧ a'.length ≤ sizeLine ∧
    ∀ p, H p = none → Q (.ref p) (upd H p (.tup [.str (Txt.partition a' b').1, .str (Txt.partition a' b').2.1, .str (Txt.partition a' b').2.2])) :=
  ⟨a, b, rfl, rfl, w.1, w.2.1, fun p n => f _ _ _ w.2.2 (new_tup (.cons (.str _) (.cons (.str _) (.cons (.str _) .nil))) n o) (Ext.new n) (o.new n)⟩
theorem mt_rsplitMax : MtR X "str.rsplit" (fun x xs H Q => ∃ (a b : Str) (k : Int), x = .str a ∧ xs = [.str b, .int k] ∧ (b.length == 0) = false ∧ -(2 ^ 63) ≤ k ∧ k < 2 ^ 63 ∧ a.length + 2 ≤ sizeLine ∧ rNewStrs (Txt.rsplitMax a b k) H Q) := by
  intro pins s σ H x xs v us Q I rx rs h
  obtain ⟨a, b, k, rfl, rfl, hb, k1, k2, hz, h⟩ := h
  obtain ⟨t, rfl⟩ := rx
  cases rs with
  | cons r1 rs =>
    cases rs with
    | cons r2 rs =>
      cases rs
      obtain ⟨u, rfl⟩ := r1
      obtain ⟨v, rfl⟩ := r2
      have e1 : decide (k < -(2 ^ 63 : Int)) = false := decide_eq_false (by omega)
      have e2 : decide (k ≥ 2 ^ 63) = false := decide_eq_false (by omega)
      have hk : (decide (k < -(2 ^ 63 : Int)) || decide (k ≥ 2 ^ 63)) = false := by rw [e1, e2, Bool.or_false]
      have hn : (Builtin.Str.partsBetween a (Builtin.Str.occurrencesFromRight a b (limitOf a k)) b.length).length ≤ sizeLine := by
        have e1 := StrLaws.occR_length_le_len a b (limitOf a k)
        rw [length_partsBetween]; omega
      have hl : (Txt.rsplitMax a b k).length ≤ sizeLine := by
        unfold Txt.rsplitMax
        split
        · show 1 ≤ sizeLine; omega
        · split
          · show 1 ≤ sizeLine; omega
          · exact hn
      cases h1 : (decide (a.length < b.length) || decide (Builtin.Str.strKind a < Builtin.Str.strKind b))
      · cases hf : (Builtin.Str.occurrencesFromRight a b (limitOf a k)).isEmpty
        · refine call_meets F.slot_str_rsplit (typeIs_str _ _ _) F.entry_str_rsplit (F.args_str_rsplit_3 _ _ _) (meets_str_rsplit_sep_max a b k t u v hk h1 hb hf (by omega) hn) ?_
          show EP X pins σ Q (.ref s.heap.objs.size) { s with toks := _, heap := s.heap.push { cls := .type "list", data := .seq (strsFrom s.toks (Builtin.Str.partsBetween a (Builtin.Str.occurrencesFromRight a b (limitOf a k)) b.length)).toArray } }
          rw [strsFrom_eq]
          exact laid_strs (ys := Txt.rsplitMax a b k) I ((numbered_texts _ _).trans ((if_neg (ne_true_of_eq_false h1)).trans (if_neg (ne_true_of_eq_false hf))).symm) hl h
        · refine call_meets F.slot_str_rsplit (typeIs_str _ _ _) F.entry_str_rsplit (F.args_str_rsplit_3 _ _ _) (meets_str_rsplit_max_not_found a b k t u v hk h1 hb hf) ?_
          exact laid_strs (l := [(a, t)]) (ys := Txt.rsplitMax a b k) (k := s.toks) I ((if_neg (ne_true_of_eq_false h1)).trans (if_pos hf)).symm hl h
      · refine call_meets F.slot_str_rsplit (typeIs_str _ _ _) F.entry_str_rsplit (F.args_str_rsplit_3 _ _ _) (meets_str_rsplit_max_cannot_occur a b k t u v hk h1) ?_
        exact laid_strs (l := [(a, t)]) (ys := Txt.rsplitMax a b k) (k := s.toks) I (if_pos h1).symm hl h
/-- a.rsplit(b, k) -/
def vRsplit (t : TDE) (ta : TDA) : TDE := fun ρ q => t ρ fun d => ∃ a, d = .str a ∧ ta ρ fun ds => ∃ (b : Str) (k : Int), ds = [.str b, .int k] ∧ (b.length == 0) = false ∧ -(2 ^ 63) ≤ k ∧ k < 2 ^ 63 ∧ a.length + 2 ≤ sizeLine ∧ q (.seq ((Txt.rsplitMax a b k).map D.str))
theorem d_rsplit {o e1 e2 : Expr} {apos : Pos} {t : TDE} {ta : TDA} (ho : EE X R o t) (he : EA X R [e1, e2] ta) (hs : starEach [e1, e2] X.env = (false, eval e1 X.env) :: starEach [e2] X.env := by rfl) (hbase : attributeBase o "rsplit" X.env (eval o X.env) = eval o X.env := by rfl)
    (hfew : ((backTo pos (starEach [e1, e2] X.env)).all (fun x => !x.1) && (backToKw pos (keywordEach [] X.env)).all (fun x => x.1.isSome) && decide ([e1, e2].length + ([] : List Keyword).length + (if ([] : List Keyword).isEmpty then 0 else 1) < 30)) = true := by rfl)
    (hline : (apos.endLine == pos.line) = true := by rfl) (hpl : (backTo pos (starEach [e2] X.env)).any (·.1) = false := by rfl) : EE X R (.Call (.Attribute o "rsplit" apos) [e1, e2] [] pos) (vRsplit t ta) :=
  PE_imp (pe_bm PySem.F.plainAttrs_str PySem.F.slot_str_rsplit PySem.F.type_str_rsplit mt_rsplitMax ho he hbase hfew hline hs hpl) fun σ H Q ⟨ρ, q, r, o, w, f⟩ => by
    refine ⟨ρ, _, r, o, w, ?_⟩
    rintro d v H1 ⟨a, rfl, w1⟩ r1 e1 o1
    cases r1
    refine ⟨rfl, ρ, _, r.mono e1, o1, w1, ?_⟩
    rintro ds vs H2 ⟨b, k, rfl, hb, k1, k2, hz, w2⟩ r2 e2 o2
    obtain ⟨x, y, rfl, rx, ry⟩ := r2.two
    cases rx; cases ry
    exact ⟨a, b, k, rfl, rfl, hb, k1, k2, hz, fun p n => f _ _ _ w2 (new_strs _ n o2) ((e1.trans e2).trans (Ext.new n)) (o2.new n)⟩
/-! ### not reached -/
theorem s_never {st : Stmt} : ES X R st (fun _ _ => False) := ⟨fun pins s σ H E I h => by
  obtain ⟨_, _, _, _, w, _⟩ := h
  exact w.elim⟩
theorem ss_never {sts : List Stmt} : ESs X R sts (fun _ _ => False) := ⟨fun pins s σ H E I h => by
  obtain ⟨_, _, _, _, w, _⟩ := h
  exact w.elim⟩
/-! ### a, b = a list -/
def sUnpL (is : List Nat) (t : TDE) : TDS := fun e ρ => t ρ fun d => ∃ ds, lstOf d ds ∧ ds.length = is.length ∧ e.nx (setAll is ds ρ)
theorem s_unpL {is : List Nat} {es : List Expr} {e : Expr} {t : TDE} {k : Nat} {tp : Pos} (hc : X.calm = true) (hg : PGs X es (gNames is)) (he : EE X R e t) (hn : (assignEach es X.env).length = is.length := by rfl) (hst : (assignEach es X.env).findIdx? (·.1) = none := by rfl)
    (hs : swapsWithSole [.Tuple es k tp] e pos.line X.env = pure false := by rfl) (hw : swappedStores [.Tuple es k tp] e X.env = pure none := by rfl)
    (h1 : (assignEach [.Tuple es k tp] X.env).map (·.2) = [assign (.Tuple es k tp) X.env] := by rfl) : ES X R (.Assign [.Tuple es k tp] e pos) (sUnpL is t) :=
  PS_imp (ps_asg he (pg_lst hc hg hn hst) hs hw h1) fun E σ H ⟨ρ, en, r, o, w, f⟩ => by
    refine ⟨ρ, _, r, o, w, ?_⟩
    rintro d v H1 ⟨ds, hd, hl, w1⟩ r1 e1 o1
    obtain ⟨a, vs, rfl, ha, ra⟩ := rep_lst r1 hd
    refine ⟨a, vs, rfl, .of ha, by rw [ra.length]; exact hl, ?_⟩
    exact gNames_ok is _ ds σ ρ _ ra (by rw [ra.length]; exact hl) (r.mono e1) fun σ' hr' => f.nx _ σ' H1 w1 hr' e1 o1
/-! ### text * int -/
theorem op_mulS : OpR X (binaryOp .Mult) (fun x y H Q => ∃ (a : Str) (n : Int), x = .str a ∧ y = .int n ∧ MulOk a n ∧ Q (.str (Txt.mul a n)) H) := by
  intro pins s σ H x y v u Q I rx ry h
  obtain ⟨a, n, rfl, rfl, hok, h⟩ := h
  obtain ⟨t, rfl⟩ := rx
  obtain ⟨t', rfl⟩ := ry
  exact SB.mul hok fun t2 k => ⟨.str _, H, I.tok _, ⟨_, rfl⟩, h⟩
def mulS : DOp := fun dx dy q => ∃ (a : Str) (n : Int), dx = .str a ∧ dy = .int n ∧ MulOk a n ∧ q (.str (Txt.mul a n))
theorem opd_mulS {K : PySem.W.Frag} : OpD K R (fun x y H Q => ∃ (a : Str) (n : Int), x = .str a ∧ y = .int n ∧ MulOk a n ∧ Q (.str (Txt.mul a n)) H) mulS := by
  rintro x y dx dy H q Q rx ry o ⟨a, n, rfl, rfl, hok, w⟩ f
  cases rx; cases ry
  exact ⟨a, n, rfl, rfl, hok, f _ _ H w (.str _) (Ext.refl _ _) o⟩
/-! ### str of an int, of a text -/
def strA : DCall := fun ds q => (∃ i, ds = [.int i] ∧ i.natAbs.log2 < 1920 ∧ q (.str (toString i))) ∨ ∃ a, ds = [.str a] ∧ q (.str a)
theorem cd_strA {K : PySem.W.Frag} : CallD K R (fun xs H Q => (∃ i, xs = [.int i] ∧ i.natAbs.log2 < 1920 ∧ Q (.str (toString i)) H) ∨ ∃ a, xs = [.str a] ∧ Q (.str a) H) strA := by
  rintro xs ds H q Q r o w f
  rcases w with ⟨i, rfl, hi, w⟩ | ⟨a, rfl, w⟩
  · obtain ⟨x, rfl, rx⟩ := r.one
    cases rx
    exact .inl ⟨i, rfl, hi, f _ _ H w (.str _) (Ext.refl _ _) o⟩
  · obtain ⟨x, rfl, rx⟩ := r.one
    cases rx
    exact .inr ⟨a, rfl, f _ _ H w (.str _) (Ext.refl _ _) o⟩
end
/-! ### for i, c in enumerate(text), enumerate(text, start=1) -/
def Itn (x : Str) (k0 : Int) : It :=
  ⟨fun i H => i < x.cps.size, fun i H v H' => ∃ T c, v = .ref T ∧ H T = none ∧ H' = upd H T (.tup [.int (k0 + (i : Nat)), .str ⟨#[c]⟩]) ∧ x.cps[i]? = some c, fun i H => x.cps.size ≤ i⟩
theorem turn_enumS {P : Program} {w : World} {K : PySem.W.Frag} {elts : List Expr} {kk : Nat} {tpos : Pos} (x : Str) (t : Tok) (k0 : Int) (e it : Addr) :
    Turn P w K (.Tuple elts kk tpos) (Itn x k0) [e, it] e (fun i h => (∃ old, IsEnum h e it (k0 + ((i : Nat) : Int)) old) ∧ h.IsStrIter it (strIterType x) x t i ∧ e ≠ it ∧ i ≤ x.cps.size) where
  mem := by simp
  obj := fun i h st b hb => by
    obtain ⟨⟨old, he⟩, ⟨o, ho, hc, hd⟩, _⟩ := st
    have e' : b = e ∨ b = it := by simpa using hb
    rcases e' with z | z
    · rw [z]; exact ⟨_, he, fun v q => nomatch q⟩
    · rw [z]; exact ⟨o, ho, fun v q => by rw [hd] at q; cases q⟩
  keep := fun i h h' st k => let ⟨⟨old, he⟩, ⟨o, ho, r⟩, hne, hle⟩ := st; ⟨⟨old, k e (by simp) _ he⟩, ⟨o, k it (by simp) o ho, r⟩, hne, hle⟩
  item := by
    intro X hP hw hK hc i pins s σ H E I hf st hg
    subst hP hw hK
    obtain ⟨⟨old, he⟩, hit, hne, hle⟩ := st
    have hel : e < s.heap.objs.size := Heap.lt_size he
    have hil : it < s.heap.objs.size := by obtain ⟨_, q, _⟩ := hit; exact Heap.lt_size q
    have Dr := Draws.text (prog := X.prog) (w := X.w) (A := X.A.in1) (I.ok.hd hc) it x t
    refine wpAny_pyNext_enum_itemC Dr he hit hg hne (by simpa using hne) fun u h' tk hP' ho hit' hT hsz hk => ?_
    obtain ⟨c, tu, hcx, rfl⟩ := hP'
    refine ⟨_, rfl, wpAny_letOwnedTupleGo_enum (s := { s with heap := h', toks := tk + 1 }) ho fun h'' he' sb => ?_⟩
    have hT2 : h''.get? s.heap.objs.size = some { cls := .type "tuple", data := .seq #[.int (k0 + ((i : Nat) : Int)) tk, .str ⟨#[c]⟩ tu] } := (sb.2 _ (Nat.ne_of_gt hel)).trans hT
    have new : ObjOk X.prog X.w (upd H s.heap.objs.size (.tup [.int (k0 + (i : Nat)), .str ⟨#[c]⟩])) h'' s.heap.objs.size (.tup [.int (k0 + (i : Nat)), .str ⟨#[c]⟩]) :=
      ⟨by show 2 ≤ sizeLine; decide, [.int (k0 + ((i : Nat) : Int)) tk, .str ⟨#[c]⟩ tu], .cons ⟨_, rfl⟩ (.cons ⟨_, rfl⟩ .nil), ⟨_, hT2, rfl, _, rfl⟩⟩
    have I1 : Inv X pins σ (upd H s.heap.objs.size (.tup [.int (k0 + (i : Nat)), .str ⟨#[c]⟩])) { s with heap := h'', toks := tk + 1 } :=
      I.turnedNew (ch := [e, it]) (fun b ob hb q => (sb.2 b (fun z => hb (by simp [z]))).trans (hk b ob (fun z => hb (by simp [z])) (fun z => hb (by simp [z])) q)) hf (Nat.le_refl _) new
    refine ⟨.ref s.heap.objs.size, _, I1, rfl, ⟨_, c, rfl, I.hok.fresh (Nat.le_refl _), rfl, hcx⟩, ⟨⟨.str ⟨#[c]⟩ tu, ?_⟩, ?_, hne, hg⟩, fun b hb => ?_⟩
    · have e1 : k0 + ((i + 1 : Nat) : Int) = k0 + (i : Int) + 1 := by omega
      rw [e1]; exact he'
    · obtain ⟨o, q1, q2⟩ := hit'
      exact ⟨o, (sb.2 it (Ne.symm hne)).trans q1, q2⟩
    · have hb' : b < s.heap.objs.size := by
        have e' : b = e ∨ b = it := by simpa using hb
        rcases e' with z | z
        · rw [z]; exact hel
        · rw [z]; exact hil
      rw [upd_ne (Nat.ne_of_lt hb')]
      exact (hf b hb).1
  done := by
    intro X hP hw hK hc i pins s σ H E I hf st hg
    subst hP hw hK
    obtain ⟨⟨old, he⟩, hit, hne, hle⟩ := st
    obtain ⟨f0, f1, f2, f3, f4, f5⟩ := hf it (by simp)
    have hi : i = x.cps.size := by
      have : x.cps.size ≤ i := hg
      omega
    subst hi
    have Dr := Draws.text (prog := X.prog) (w := X.w) (A := X.A.in1) (I.ok.hd hc) it x t
    exact wpAny_pyNext_enum_endD Dr he hit fun h' eb => ⟨rfl, I.turned (t' := s.toks) (fun b o hb q => eb b o hb q) f0 f1 f3 f4 f5⟩
  self := fun A i s Q E st h => let ⟨⟨_, he⟩, _⟩ := st; wpAny_pyIter_enum he h
section
variable {X : Cx} {R : Res} {pos : Pos}
def iEnumS (k0 : Int) (te : TE) : TI := fun σ H W => te σ H fun v H1 => ∃ x, [v] = [V.str x] ∧ W (Itn x k0) H1
theorem enum_end {pins : List (Addr × Obj)} {σ : L2.St} {H : Hp} {s : Shared} {x : Str} {t : Tok} {k0 : Int} {elts : List Expr} {kk : Nat} {tpos : Pos} {W : It → Hp → Prop} (I : Inv X pins σ H s) (q : W (Itn x k0) H) {h' : Heap} (he : IsEnum h' (s.heap.objs.size + 1) s.heap.objs.size k0 .none)
    (hit : h'.IsStrIter s.heap.objs.size (strIterType x) x t 0) (hk : ∀ b o, s.heap.get? b = some o → h'.get? b = some o) : wpAny (model X.prog X.w) X.A (pyIter (.ref (s.heap.objs.size + 1))) (PIE X pins σ (.Tuple elts kk tpos) W) X.xe { s with heap := h' } := by
  refine wpAny_pyIter_enum he ?_
  have I2 : Inv X pins σ H { s with heap := h' } := I.kept (t' := s.toks) hk
  refine ⟨s.heap.objs.size + 1, [s.heap.objs.size + 1, s.heap.objs.size], _, _, H, rfl, I2, turn_enumS x t k0 (s.heap.objs.size + 1) s.heap.objs.size, ⟨⟨.none, ?_⟩, hit, Nat.succ_ne_self _, Nat.zero_le _⟩, fun b hb => ?_, q⟩
  · have e : k0 + ((0 : Nat) : Int) = k0 := by omega
    rw [e]; exact he
  · have e' : b = s.heap.objs.size + 1 ∨ b = s.heap.objs.size := by simpa using hb
    have hle : s.heap.objs.size ≤ b := by
      rcases e' with z | z
      · rw [z]; exact Nat.le_add_right _ _
      · rw [z]; exact Nat.le_refl _
    exact I.fpOk hle (I.hok.fresh hle)
theorem pi_enumS {e : Expr} {te : TE} {p tpos : Pos} {elts : List Expr} {kk : Nat} (hm : X.mg "enumerate" = none) (ha : PE X e te) (hg : Gl X "enumerate" := by rfl) (hs : starEach [e] X.env = [(false, eval e X.env)] := by rfl) :
    PI X (.Tuple elts kk tpos) (.Call (.Name "enumerate" p) [e] [] pos) (iEnumS 0 te) := by
  refine ⟨fun pins s σ H W I h => ?_⟩
  refine Call_ (ld_blt I hg hm boot_enumerate (PyProof.Rows.callWith_type1 (thn ((pa_cons ha pa_nil hs).run pos pins s σ H (fun vs H1 => ∃ x, vs = [.str x] ∧ W (Itn x 0) H1) I ?_) fun us s1 ⟨vs, H1, I1, r1, q1⟩ => ?_) hs rfl))
  · exact h
  obtain ⟨x, ex, q⟩ := q1
  subst ex
  cases r1 with
  | cons r rr =>
    cases rr
    obtain ⟨t, rfl⟩ := r
    refine call_enumerate_str fun h' he hit hsz hk => ?_
    exact enum_end (t := t) I1 q he hit hk
theorem callWith_type_kwB {M : Model} {A : Around} {E : Value → Shared → Prop} {s : Shared} {pos : Pos} {T : String} {first : List Value} {args : List (Bool × Sem Value)} {keywords : List (Option Str × Sem Value)} {Q : Value → Shared → Prop}
    (hplain : args.any (·.1) = false) (hkw : keywords.any (·.1.isNone) = false)
    (h : wpAny M A (evalArgs (.type T) true args keywords) (fun a s₁ => wpAny M A (call (.type T) (first ++ a.pos) a.kw) Q E s₁) E s) :
    wpAny M A (callWith pos (.type T) first args keywords) Q E s := by
  unfold callWith
  refine wpAny_bind (wpAny_holding (wpAny_mono h (fun a s₁ h₁ => wpAny_bind (wpAny_standAt ?_)) fun _ _ x => x))
  simp only [hplain, hkw, Bool.or_false]
  refine wpAny_bind (wpAny_pure ?_)
  exact wpAny_bind (wpAny_mono h₁ (fun r s₂ hr => wpAny_bind (wpAny_holding (wpAny_point (wpAny_pure hr)))) fun _ _ x => x)
theorem pi_enumK {e : Expr} {te : TE} {p tpos p2 kp : Pos} {elts : List Expr} {kk j : Nat} {k0 : Int} (hm : X.mg "enumerate" = none) (ha : PE X e te) (hk0 : -(2 ^ 63) ≤ k0 := by decide) (hk1 : k0 < 2 ^ 63 := by decide) (hg : Gl X "enumerate" := by rfl) (hs : starEach [e] X.env = (false, eval e X.env) :: starEach [] X.env := by rfl)
    (he : backTo pos (starEach [e] X.env) = (false, eval e X.env) :: backTo pos (starEach [] X.env) := by rfl) (hplain : (backTo pos (starEach [e] X.env)).any (·.1) = false := by rfl)
    (hall : (backToKw pos (keywordEach [⟨some "start", .Constant (.int k0) j p2, kp⟩] X.env)).all (·.1.isSome) = true := by rfl)
    (hkw : (backToKw pos (keywordEach [⟨some "start", .Constant (.int k0) j p2, kp⟩] X.env)).any (·.1.isNone) = false := by rfl)
    (hks : (backToKw pos (keywordEach [⟨some "start", .Constant (.int k0) j p2, kp⟩] X.env)).filterMap (·.1) = [(Str.ofString "start")] := by rfl) :
    PI X (.Tuple elts kk tpos) (.Call (.Name "enumerate" p) [e] [⟨some "start", .Constant (.int k0) j p2, kp⟩] pos) (iEnumS k0 te) := by
  refine ⟨fun pins s σ H W I h => ?_⟩
  refine wpAny_Call_Name_kw (ld_blt I hg hm boot_enumerate ?_)
  refine callWith_type_kwB hplain hkw ?_
  have hA := (pa_cons ha pa_nil hs).run pos pins s σ H (fun vs H1 => ∃ x, vs = [.str x] ∧ W (Itn x k0) H1) I h
  rw [he]
  rw [hs] at hA
  refine PyProof.Rows.evalArgs_kwB hall (thn hA fun us s1 ⟨vs, H1, I1, r1, q1⟩ => ?_)
  refine thn ((pk_cons (nm := some "start") (kpos := kp) (pe_int (i := k0)) pk_nil).run pos pins s1 σ H1 (fun ks H2 => ks = [.int k0] ∧ H2 = H1) I1 ⟨rfl, rfl⟩) fun ws s2 ⟨zs, H2, I2, r2, e2, e3⟩ => ?_
  subst e2 e3
  rw [hks]
  cases r2 with
  | cons rk rn =>
    cases rn
    obtain ⟨tk, rfl⟩ := rk
    obtain ⟨x, ex, q⟩ := q1
    subst ex
    cases r1 with
    | cons r rr =>
      cases rr
      obtain ⟨t, rfl⟩ := r
      refine enum_begins_start (begins_text x t) trivial hk0 hk1 fun h' he' ho hsz hk => ?_
      exact enum_end (t := t) I2 q he' ⟨_, ho, rfl, rfl⟩ hk
/-- for i, c in enumerate(text ..) -/
def sForE (i j : Nat) (k0 : Int) (t : TDE) (tb : TDS) : TDS := fun e ρ => t ρ fun d => ∃ z : Str, d = .str z ∧ ∃ Iv : Nat → DE → Prop, Iv 0 ρ ∧
  (∀ m c ρ', z.cps.toList[m]? = some c → Iv m ρ' → tb ⟨Iv (m + 1), e.rt⟩ ((ρ'.set i (some (.int (k0 + (m : Nat))))).set j (some (.str ⟨#[c]⟩)))) ∧ ∀ ρ', Iv z.cps.toList.length ρ' → e.nx ρ'
theorem s_forE {i j : Nat} {k0 : Int} {es : List Expr} {kk : Nat} {tp : Pos} {iter : Expr} {body : List Stmt} {t : TDE} {tb : TDS} (hp : PassesOwn (model X.prog X.w) X.A X.env X.xe) (hc : X.calm = true) (hi : PI X (.Tuple es kk tp) iter (iEnumS k0 (tD X.K R t))) (hg : PGs X es (gNames [i, j])) (hb : ESs X R body tb)
    (hn : (assignEach es X.env).length = 2 := by rfl) (hst : (assignEach es X.env).findIdx? (·.1) = none := by rfl)
    (hs : ∀ x, foldedSetIterable iter X.env x = pure x := by intro _; rfl) : ES X R (.For (.Tuple es kk tp) iter body [] pos) (sForE i j k0 t tb) :=
  PS_imp (ps_for hp hc hi (pg_tup hc hg hn hst) hb hs) fun E σ H ⟨ρ, en, r, o, w, f⟩ => by
    refine ⟨ρ, _, r, o, w, ?_⟩
    rintro d v H1 ⟨z, rfl, Iv, h0, hstep, hend⟩ r1 e1 o1
    cases r1
    refine ⟨z, rfl, ?_⟩
    have wk : L2.Walk (Itn z k0) z.cps.size (fun _ => True) (fun i H v H' => ∃ T c, v = .ref T ∧ H T = none ∧ H' = upd H T (.tup [.int (k0 + (i : Nat)), .str ⟨#[c]⟩]) ∧ z.cps[i]? = some c) :=
      ⟨fun _ _ hi _ => hi, fun _ _ => Nat.le_refl _, fun _ _ _ _ _ _ y => y⟩
    refine for_it wk (fun m σ' H' => m ≤ z.cps.size ∧ Ext R.p H1 H' ∧ Pot R H' ∧ ∃ ρ', REnv X.K R.av H' σ' ρ' ∧ Iv m ρ') ⟨Nat.zero_le _, Ext.refl _ _, o1, ρ, r.mono e1, h0⟩ (fun _ _ _ _ _ => trivial) ?_ ?_
    · rintro m x σ' H' H'' hm ⟨_, e2, o2, ρ', r2, iv⟩ ⟨T, c, rfl, nT, rfl, hcx⟩
      have e3 : Ext R.p H' (upd H' T (.tup [.int (k0 + (m : Nat)), .str ⟨#[c]⟩])) := Ext.new nT
      have o3 := o2.new (R := R) (o := .tup [.int (k0 + (m : Nat)), .str ⟨#[c]⟩]) nT
      refine ⟨T, [.int (k0 + (m : Nat)), .str ⟨#[c]⟩], rfl, .inl (.inl upd_same), rfl, ?_⟩
      refine gNames_ok (q := R.av) [i, j] _ [.int (k0 + (m : Nat)), .str ⟨#[c]⟩] σ' ρ' _ (.cons (.int _) (.cons (.str _) .nil)) rfl (r2.mono e3) fun σ2 rr => ?_
      refine ⟨_, _, rr, o3, hstep m c ρ' (by simpa using hcx) iv, fun ρ3 σ3 H3 w3 r3 e4 o4 => ?_, f.rt.step ((e1.trans e2).trans e3)⟩
      exact ⟨hm, (e2.trans e3).trans e4, o4, ρ3, r3, w3⟩
    · rintro σ' H' ⟨_, e2, o2, ρ', r2, iv⟩
      exact f.nx ρ' σ' H' (hend ρ' (by simpa using iv)) r2 (e1.trans e2) o2
/-! ### a tuple, walked; f(e) as a statement; f(x=e) -/
def iTupD (t : TDE) : TDI := fun ρ q => t ρ fun d => ∃ ds, d = .tup ds ∧ q ds
theorem i_tup {tg e : Expr} {t : TDE} (he : EE X R e t) : EI X R tg e (iTupD t) := PI_imp (pi_tup he) fun σ H W ⟨ρ, q, r, o, w, f⟩ => by
  refine ⟨ρ, _, r, o, w, ?_⟩
  rintro d v H1 ⟨ds, rfl, w1⟩ r1 e1 o1
  cases r1 with
  | @tup a xs _ h ra =>
    refine ⟨a, rfl, ⟨xs, h.sq⟩, f ds _ H1 w1 ⟨fun H => SqT X.K H a xs, YAt xs, ?_, fun H' e => (SqTp.mono e h).sq, ?_⟩ e1 o1⟩
    · rw [← ra.length]; exact walk_tup
    · rintro i H2 x H3 hil e2 ⟨rfl, hx⟩
      obtain ⟨d, h1, h2⟩ := ra.get' hx
      exact ⟨rfl, d, h1, h2⟩
def sExpr (t : TDE) : TDS := fun e ρ => t ρ fun _ => e.nx ρ
theorem s_expr {e : Expr} {t : TDE} (he : EE X R e t) (hs : swapsWith e none pos.line X.env = pure false := by rfl) : ES X R (.Expr e pos) (sExpr t) := PS_imp (ps_expr he hs) fun E σ H ⟨ρ, en, r, o, w, f⟩ =>
  ⟨ρ, _, r, o, w, fun d v H1 w1 r1 e1 o1 => f.nx ρ σ H1 w1 (r.mono e1) e1 o1⟩
/-- a def of one parameter y, also called by its name -/
structure DefK (P : Program) (w : World) (K : PySem.W.Frag) (mg : Str → Option Value) (base : Heap) (x y : Str) (k : Nat) (sp : Sp) : Prop where
  ex : ∃ (f : Addr) (fd : FuncData), FnG P w K mg base k f fd [y] sp ∧ mg x = some (.ref f) ∧ PySem.W.keepIn K (.ref f) = true ∧ Binds K fd [y] [] ∧ ∀ (s : Shared) (u : Value), BindsTo s fd ⟨[], [y].zip [u]⟩ ([y].zip [u])
theorem DefK.d {P : Program} {w : World} {K : PySem.W.Frag} {mg : Str → Option Value} {base : Heap} {x y : Str} {k : Nat} {sp : Sp} (h : DefK P w K mg base x y k sp) : Def P w K mg base x k sp := by
  obtain ⟨f, fd, h1, h2, h3, h4, _⟩ := h.ex
  exact ⟨f, fd, _, h1, h2, h3, h4⟩
theorem d_callK {k : Nat} {x y : Str} {p kp : Pos} {e : Expr} {te : TDE} {Fd : DCall} (F : DefK X.prog X.w X.K X.mg X.base x y k (spD X.K R Fd))
    (hr : Room k X.A) (hgd : X.A.guards = some []) (ha : EE X R e te) (hg : Gl X x := by rfl)
    (hdb : (x == ("__debug__" : Str)) = false := by decide) (hall : (backToKw pos (keywordEach [⟨some y, e, kp⟩] X.env)).all (·.1.isSome) = true := by rfl) (hks : (backToKw pos (keywordEach [⟨some y, e, kp⟩] X.env)).filterMap (·.1) = [y] := by rfl)
    (hpl : ((backTo pos (starEach [] X.env)).any (·.1) || (backToKw pos (keywordEach [⟨some y, e, kp⟩] X.env)).any (·.1.isNone)) = false := by rfl) :
    EE X R (.Call (.Name x p) [] [⟨some y, e, kp⟩] pos) (vCall Fd (vCons te vNil)) := by
  obtain ⟨f, fd, F, hm, hk, hb, hbk⟩ := F.ex
  refine ⟨fun pins s σ H Q I ⟨ρ, q, r, o, w, fi⟩ => ?_⟩
  refine wpAny_Call_Name_kw (ld_glob I hg hm ?_ hdb)
  refine PySem.W.callWith_KW0 (h₀ := X.base) I.ok.mod.kin hk hall ?_ hpl
  refine thn ((pk_cons (nm := some y) (kpos := kp) ha pk_nil).run pos pins s σ H (fun vs H1 => spD X.K R Fd vs H1 Q E0) I ?_) fun ws s2 ⟨zs, H2, I2, rz, q2⟩ => ⟨I2.kIn, ?_⟩
  · refine ⟨ρ, _, r, o, w, fun d v H1 w1 r1 e1 o1 => ?_⟩
    exact ⟨[d], q, .cons r1 .nil, o1, w1, fi.step e1⟩
  · rw [hks]
    have hl : zs.length = 1 := F.len _ _ _ _ q2
    obtain ⟨z, rfl⟩ : ∃ z, zs = [z] := by
      match zs, hl with | [z], _ => exact ⟨z, rfl⟩
    cases rz with
    | cons ru rn =>
      cases rn
      refine wpAny_call (codeAny_mono (F.run X.A X.stack s2 H2 ⟨[], [y].zip [_]⟩ [_] [z] Q E0 hr hgd I2.env0 (hbk s2 _) (.cons ru .nil) q2) fun r s' hq => ?_)
      cases r with
      | error e => exact hq.elim
      | ok fl =>
        cases fl with
        | ret u => exact I2.after hq
        | next => exact False.elim hq
        | brk => exact False.elim hq
        | cont => exact False.elim hq
end
end Dl

set_option Elab.async false
set_option linter.all false
set_option maxRecDepth 100000
set_option maxHeartbeats 4000000
namespace K3
open PySem PySem.Spec PyProof.Rows L2 Dl
def top (i : Nat) : Stmt := PySem.Challenge.pw_gapfill_k03_letters_written_and_read.main.body.getD i (.Pass ⟨0, 0, 0, 0⟩)
abbrev s_is_whole : Stmt := top 11
abbrev s_is_truth : Stmt := top 12
abbrev s_is_side : Stmt := top 13
abbrev s_is_text : Stmt := top 14
abbrev s_has_word : Stmt := top 15
abbrev s_is_word : Stmt := top 16
abbrev s_is_beat : Stmt := top 17
abbrev s_is_test : Stmt := top 18
abbrev s_is_ask : Stmt := top 19
abbrev s_is_fill : Stmt := top 20
abbrev s_is_hello : Stmt := top 21
abbrev s_is_bye : Stmt := top 22
abbrev s_is_body : Stmt := top 24
abbrev s_go_together : Stmt := top 25
abbrev s_is_letter : Stmt := top 26
abbrev s_need_letter : Stmt := top 27
abbrev s_show_part : Stmt := top 31
abbrev s_show_parts : Stmt := top 32
abbrev s_is_number : Stmt := top 33
abbrev s_read_part : Stmt := top 34
abbrev s_sum_of : Stmt := top 39
abbrev s_show_ahead : Stmt := top 40
abbrev s_show_letter : Stmt := top 41
abbrev s_is_numbered : Stmt := top 42
abbrev s_read_body : Stmt := top 43
abbrev s_read_ahead : Stmt := top 44
abbrev s_read_letter : Stmt := top 45
abbrev s_law_cell : Stmt := top 47
abbrev s_law_pot : Stmt := top 48
abbrev s_law_pull : Stmt := top 49
abbrev s_law_phrase : Stmt := top 50
abbrev s_law_number : Stmt := top 51
abbrev s_law_mail : Stmt := top 52
abbrev s_law_is : Stmt := top 53
abbrev s_law_shown : Stmt := top 54
abbrev s_law_total : Stmt := top 55
abbrev s_law_closed : Stmt := top 56
abbrev s_law_written : Stmt := top 57
abbrev s_law_both_ways : Stmt := top 58
abbrev s_law_right : Stmt := top 59
abbrev s_law : Stmt := top 60
structure Txt (K : PySem.W.Frag) (mg : Str → Option Value) : Prop where
  n_type : mg "type" = none
  n_int : mg "int" = none
  n_bool : mg "bool" = none
  n_str : mg "str" = none
  n_tuple : mg "tuple" = none
  n_len : mg "len" = none
  n_all : mg "all" = none
  n_isinstance : mg "isinstance" = none
  n_abs : mg "abs" = none
  n_divmod : mg "divmod" = none
  n_list : mg "list" = none
  n_min : mg "min" = none
  n_max : mg "max" = none
  n_range : mg "range" = none
  n_repr : mg "repr" = none
  n_enumerate : mg "enumerate" = none
  c_MOST_SIGNS : GInt mg "MOST_SIGNS" 20
  c_MOST_NUMBER : GInt mg "MOST_NUMBER" 9999
  c_MOST_ROUND : GInt mg "MOST_ROUND" 999
  c_TEXT_SIGNS : GStr mg "TEXT_SIGNS" "abcdefghijklmnopqrstuvwxyz0123456789 "
  c_SIGNS : GStr mg "SIGNS" "abcdefghijklmnopqrstuvwxyz0123456789 =|,"
  c_FIGURES : GStr mg "FIGURES" "0123456789"
  c_LENGTH : GStr mg "LENGTH" "length="
  c_SUM : GStr mg "SUM" "sum="
  c_MOST_FIGURES : GInt mg "MOST_FIGURES" 5
  c_SUM_BELOW : GInt mg "SUM_BELOW" 997
  c_SIDES : GTup K mg "SIDES" ["a", "b"]
section
variable {P : Program} {w : World} {K : PySem.W.Frag} {mg : Str → Option Value} {base : Heap}
/-! ### data that the program may be handed -/
def okD (d : D) : Prop := d.plain = true ∧ d.sz ≤ 1000000
theorem okD.obj {d : D} (h : okD d) : isObjD d = true := by
  cases d <;> first | rfl | (have := h.1; simp only [D.plain] at this; cases this)
theorem plains_mem : ∀ {ds : List D} {d : D}, D.plains ds = true → d ∈ ds → d.plain = true
  | d :: ds, e, h, m => by
    simp only [D.plains, Bool.and_eq_true] at h
    rcases List.mem_cons.mp m with rfl | m
    · exact h.1
    · exact plains_mem h.2 m
theorem szs_mem : ∀ {ds : List D} {d : D}, d ∈ ds → d.sz < D.szs ds
  | d :: ds, e, m => by
    simp only [D.szs]
    rcases List.mem_cons.mp m with rfl | m
    · omega
    · have := szs_mem m
      omega
theorem szs_len : ∀ ds : List D, ds.length ≤ D.szs ds
  | [] => Nat.le_refl _
  | d :: ds => by
    have := szs_len ds
    simp only [D.szs, List.length_cons]
    omega
theorem okD.tup {ds : List D} (h : okD (.tup ds)) : ∀ d ∈ ds, okD d := fun d m => by
  obtain ⟨h1, h2⟩ := h
  simp only [D.plain] at h1
  simp only [D.sz] at h2
  have := szs_mem m
  exact ⟨plains_mem h1 m, by omega⟩
theorem len1 {α : Type} {l : List α} (h : l.length = 1) : ∃ a, l = [a] := by
  match l, h with | [a], _ => exact ⟨a, rfl⟩
theorem len2 {α : Type} {l : List α} (h : l.length = 2) : ∃ a b, l = [a, b] := by
  match l, h with | [a, b], _ => exact ⟨a, b, rfl⟩
theorem len4 {α : Type} {l : List α} (h : l.length = 4) : ∃ a b c d, l = [a, b, c, d] := by
  match l, h with | [a, b, c, d], _ => exact ⟨a, b, c, d, rfl⟩
theorem len6 {α : Type} {l : List α} (h : l.length = 6) : ∃ a b c d e f, l = [a, b, c, d, e, f] := by
  match l, h with | [a, b, c, d, e, f], _ => exact ⟨a, b, c, d, e, f, rfl⟩
/-! ### what the program's defs answer -/
def isWhole (d : D) (lo hi : Int) : Bool := match d with | .int i => decide (lo ≤ i) && decide (i ≤ hi) | _ => false
def isTruth (d : D) : Bool := match d with | .bl _ => true | _ => false
def isSide (d : D) : Bool := match d with | .str x => x == "a" || x == "b" | _ => false
def signs : Str := "abcdefghijklmnopqrstuvwxyz0123456789 "
def isText (d : D) : Bool := match d with | .str x => decide (1 ≤ x.length) && decide (x.length ≤ 20) && x.cps.toList.all (fun c => decide (c ∈ signs.cps.toList)) | _ => false
def P1 (g : D → Bool) : List D → Bool | [d] => g d | _ => false
theorem P1_no {g : D → Bool} : ∀ {ps : List D}, ¬ ps.length = 1 → P1 g ps = false
  | [], _ => rfl
  | [_], h => absurd rfl h
  | _ :: _ :: _, _ => rfl
def wordP : List D → Bool := P1 isText
def beatP : List D → Bool := P1 fun d => isWhole d 0 9999
def testP : List D → Bool := P1 fun d => isWhole d 1 9999
def askP : List D → Bool
  | [.int a, b] => decide (1 ≤ a) && decide (a ≤ 9999) && (isWhole b 0 0 || isWhole b a 9999)
  | _ => false
def fillP : List D → Bool := P1 fun d => isWhole d 2 10000
def helloP : List D → Bool
  | [a, b, c, d, e, f] => isWhole a 0 999 && isWhole b 0 9999 && isWhole c 1 10000 && isWhole d 0 10000 && isTruth e && isTruth f
  | _ => false
def byeP : List D → Bool | [] => true | _ => false
def FisWhole : DCall := fun ds q => ∃ d lo hi, ds = [d, .int lo, .int hi] ∧ okD d ∧ q (.bl (isWhole d lo hi))
def F1 (g : D → Bool) : DCall := fun ds q => ∃ d, ds = [d] ∧ okD d ∧ q (.bl (g d))
def FP (g : List D → Bool) : DCall := fun ds q => ∃ ps, ds = [.tup ps] ∧ (∀ d ∈ ps, okD d) ∧ q (.bl (g ps))
theorem sc_is_whole : FnScope ["thing", "low", "high"] ["thing", "low", "high"] (defScope s_is_whole) := ⟨rfl, rfl, rfl, by decide +kernel, rfl, by decide +kernel, by decide +kernel⟩
theorem ok_is_whole {R : Res} {f : Addr} {fd : FuncData} (F : Fun K "is_whole" "is_whole" s_is_whole f fd) (T : Txt K mg) : FnG P w K mg base 1 f fd ["thing", "low", "high"] (spD K R FisWhole) := by
  refine FunD.ok F sc_is_whole (fun ds q ⟨d, lo, hi, e, _⟩ => by rw [e]; rfl) (fun cdv A outer s H E ds q hr hgd h => ?_)
  obtain ⟨d, lo, hi, rfl, hd, h⟩ := h
  refine ⟨_, (ss_one (s_ret (d_and (d_cmp opd_eq (opr_eq hr.units0) (d_callTy cd_type call_type1 T.n_type (by decide +kernel) (a_cons (dv 0) a_nil)) (d_ty (n := "int") T.n_int (by decide +kernel))) (d_one (d_chain opd_cmpI opd_cmpI op_le op_le (dv 1) (dv 0) (dv 2)))))), ?_⟩
  have ho := hd.obj
  cases d <;> first | (cases ho; done) | skip
  all_goals simp [sNil, sSeq, sSet, sRet, sIf, sPar, sUnp, setAll, vAndV, vOrV, vNotV, vAnd, vOr, vNot, vT, vIf, vOp, vCall, vCons, vNil, vTup, vLst, vVar, vC, vChain, vSl, vNoPart, vPart, startD, typeD, isiD, lenD, isObjD, kindD, isaT, eqDD, eqD, neDD, neD, knownTy, Dl.intD, addD, subD, ixD, itemsD, L2.atI, L2.ixN, sliceD, Dl.cutD, HT.sIx, isWhole] at h ⊢
  all_goals first | exact h | skip
  all_goals (split <;> simp_all)
theorem sc_is_truth : FnScope ["thing"] ["thing"] (defScope s_is_truth) := ⟨rfl, rfl, rfl, by decide +kernel, rfl, by decide +kernel, by decide +kernel⟩
theorem ok_is_truth {R : Res} {f : Addr} {fd : FuncData} (F : Fun K "is_truth" "is_truth" s_is_truth f fd) (T : Txt K mg) : FnG P w K mg base 1 f fd ["thing"] (spD K R (F1 isTruth)) := by
  refine FunD.ok F sc_is_truth (fun ds q ⟨d, e, _⟩ => by rw [e]; rfl) (fun cdv A outer s H E ds q hr hgd h => ?_)
  obtain ⟨d, rfl, hd, h⟩ := h
  refine ⟨_, (ss_one (s_ret (d_cmp opd_eq (opr_eq hr.units0) (d_callTy cd_type call_type1 T.n_type (by decide +kernel) (a_cons (dv 0) a_nil)) (d_ty (n := "bool") T.n_bool (by decide +kernel))))), ?_⟩
  have ho := hd.obj
  cases d <;> first | (cases ho; done) | skip
  all_goals simp [sNil, sSeq, sSet, sRet, sIf, sPar, sUnp, setAll, vAndV, vOrV, vNotV, vAnd, vOr, vNot, vT, vIf, vOp, vCall, vCons, vNil, vTup, vLst, vVar, vC, vChain, vSl, vNoPart, vPart, startD, typeD, isiD, lenD, isObjD, kindD, isaT, eqDD, eqD, neDD, neD, knownTy, Dl.intD, addD, subD, ixD, itemsD, L2.atI, L2.ixN, sliceD, Dl.cutD, HT.sIx, isTruth] at h ⊢
  all_goals exact h
theorem sc_is_side : FnScope ["thing"] ["thing"] (defScope s_is_side) := ⟨rfl, rfl, rfl, by decide +kernel, rfl, by decide +kernel, by decide +kernel⟩
theorem inV_ab (x : Str) : inV (.str x) [V.str "a", V.str "b"] = (x == "a" || x == "b") := by
  show (("a" == x) || (("b" == x) || false)) = _
  rw [Bool.or_false, BEq.comm (a := ("a" : Str)), BEq.comm (a := ("b" : Str))]
theorem ok_is_side {R : Res} {f : Addr} {fd : FuncData} (F : Fun K "is_side" "is_side" s_is_side f fd) (T : Txt K mg) : FnG P w K mg base 1 f fd ["thing"] (spD K R (F1 isSide)) := by
  refine FunD.ok F sc_is_side (fun ds q ⟨d, e, _⟩ => by rw [e]; rfl) (fun cdv A outer s H E ds q hr hgd h => ?_)
  obtain ⟨d, rfl, hd, h⟩ := h
  refine ⟨_, (ss_one (s_ret (d_and (d_cmp opd_eq (opr_eq hr.units0) (d_callTy cd_type call_type1 T.n_type (by decide +kernel) (a_cons (dv 0) a_nil)) (d_ty (n := "str") T.n_str (by decide +kernel))) (d_one (d_cmp opd_in op_in_seq (dv 0) (d_gtupT T.c_SIDES)))))), ?_⟩
  have ho := hd.obj
  cases d <;> first | (cases ho; done) | skip
  all_goals simp [sNil, sSeq, sSet, sRet, sIf, sPar, sUnp, setAll, vAndV, vOrV, vNotV, vAnd, vOr, vNot, vT, vIf, vOp, vCall, vCons, vNil, vTup, vLst, vVar, vC, vChain, vSl, vNoPart, vPart, startD, typeD, isiD, lenD, isObjD, kindD, isaT, eqDD, eqD, neDD, neD, knownTy, Dl.intD, addD, subD, ixD, itemsD, L2.atI, L2.ixN, sliceD, Dl.cutD, HT.sIx, isSide, inD, flatD, dvOf, inV_ab] at h ⊢
  all_goals exact h
theorem sc_is_text : FnScope ["thing", "sign"] ["thing"] (defScope s_is_text) := ⟨rfl, rfl, rfl, by decide +kernel, rfl, by decide +kernel, by decide +kernel⟩
theorem ok_is_text {R : Res} {f : Addr} {fd : FuncData} (F : Fun K "is_text" "is_text" s_is_text f fd) (T : Txt K mg) : FnG P w K mg base 1 f fd ["thing"] (spD K R (F1 isText)) := by
  refine FunD.ok F sc_is_text (fun ds q ⟨d, e, _⟩ => by rw [e]; rfl) (fun cdv A outer s H E ds q hr hgd h => ?_)
  obtain ⟨d, rfl, hd, h⟩ := h
  refine ⟨_, (ss_cons (s_if (PW.pt (t_or (t_cmp opd_ne opr_ne (d_callTy cd_type call_type1 T.n_type (by decide +kernel) (a_cons (dv 0) a_nil)) (d_ty (n := "str") T.n_str (by decide +kernel))) (t_or1 (t_not (t_chain opd_cmpI opd_cmpI op_le op_le d_int (d_callB cd_len call_len T.n_len (by decide +kernel) (a_cons (dv 0) a_nil)) (d_gintT T.c_MOST_SIGNS)))))) (ss_one (s_ret d_bl)) ss_nil) (ss_one (s_ret (d_callB cd_all (cr_all rfl) T.n_all (by decide +kernel) (a_cons (d_lc (i := 1) rfl sc_is_text.nd (i_str (dv 0)) (blkOk_by (own := [("sign", 1)]) (N := ["thing", "sign"]) (sc := defScope s_is_text) (by decide +kernel)) (fun _ _ _ _ _ => pg_name (i := 1) sc_is_text.nd rfl (Or.inl rfl)) (fun _ _ _ _ _ A => (d_cmp opd_inS op_in_sign (dv 1) (d_gstrT T.c_TEXT_SIGNS)))) a_nil))))), ?_⟩
  have ho := hd.obj
  cases d <;> first | (cases ho; done) | skip
  case str x =>
    have hz : x.length ≤ sizeLine := by
      have := hd.2
      simp only [D.sz] at this
      rw [sizeLine_eq]
      omega
    refine ⟨.str x, rfl, .str x, rfl, rfl, _, neD_ty (d := .str x) rfl (by decide), false, rfl, ?_⟩
    refine iteF ⟨.str x, rfl, .str x, rfl, .inr ⟨x, rfl, hz, 1, _, rfl, rfl, trivial, _, rfl, ?_⟩⟩
    by_cases h1 : (1 : Int) ≤ (x.length : Int)
    · rw [decide_eq_true h1]
      refine iteT ⟨_, _, rfl, rfl, trivial, _, rfl, ?_⟩
      by_cases h2 : (x.length : Int) ≤ 20
      · rw [decide_eq_true h2]
        refine iteF ⟨.str x, rfl, x, rfl, all_lc (g := fun c => decide (c ∈ signs.cps.toList)) hz (fun c _ => ⟨_, rfl, c, _, rfl, rfl, rfl⟩) ?_⟩
        have e : isText (.str x) = (x.cps.toList.all fun c => decide (c ∈ signs.cps.toList)) := by
          show (decide (1 ≤ x.length) && decide (x.length ≤ 20) && _) = _
          rw [decide_eq_true (by omega), decide_eq_true (by omega)]
          rfl
        rw [e] at h
        exact h
      · rw [decide_eq_false h2]
        refine iteT ?_
        have e : isText (.str x) = false := by
          show (decide (1 ≤ x.length) && decide (x.length ≤ 20) && _) = _
          rw [decide_eq_false (p := x.length ≤ 20) (by omega)]
          simp
        rw [e] at h
        exact h
    · rw [decide_eq_false h1]
      refine iteF ⟨_, rfl, iteT ?_⟩
      have e : isText (.str x) = false := by
        show (decide (1 ≤ x.length) && decide (x.length ≤ 20) && _) = _
        rw [decide_eq_false (p := 1 ≤ x.length) (by omega)]
        simp
      rw [e] at h
      exact h
  all_goals simp [sNil, sSeq, sSet, sRet, sIf, sPar, sUnp, setAll, vAndV, vOrV, vNotV, vAnd, vOr, vNot, vT, vIf, vOp, vCall, vCons, vNil, vTup, vLst, vVar, vC, vChain, vSl, vNoPart, vPart, startD, typeD, isiD, lenD, isObjD, kindD, isaT, eqDD, eqD, neDD, neD, knownTy, Dl.intD, addD, subD, ixD, itemsD, L2.atI, L2.ixN, sliceD, Dl.cutD, HT.sIx, isText] at h ⊢
  all_goals exact h
end
end K3

set_option Elab.async false
set_option linter.all false
set_option maxRecDepth 100000
set_option maxHeartbeats 4000000
namespace K3
open PySem PySem.Spec PyProof.Rows L2 Dl
section
variable {P : Program} {w : World} {K : PySem.W.Frag} {mg : Str → Option Value} {base : Heap}
theorem len_ne {n k : Nat} (h : ¬ n = k) : ((n : Int) == (k : Int)) = false := beq_eq_false_iff_ne.mpr fun e => h (by omega)
theorem ifF {b : Bool} {A B : Prop} (hb : b = false) (h : B) : if b = true then A else B := by rw [hb]; exact iteF h
theorem ifT {b : Bool} {A B : Prop} (hb : b = true) (h : A) : if b = true then A else B := by rw [hb]; exact iteT h
theorem ifB {b : Bool} {A B : Prop} (h1 : b = true → A) (h0 : b = false → B) : if b = true then A else B := by
  cases b
  · exact iteF (h0 rfl)
  · exact iteT (h1 rfl)
theorem qb {q : D → Prop} {a b : Bool} (h : q (.bl a)) (e : b = a) : q (.bl b) := by rw [e]; exact h
/-- a def of the program, at some level, with such a promise, whatever may change -/
abbrev DefP (P : Program) (w : World) (K : PySem.W.Frag) (mg : Str → Option Value) (base : Heap) (x : Str) (k : Nat) (Fd : DCall) : Prop := ∀ R : Res, Def P w K mg base x k (spD K R Fd)
theorem sc_is_word : FnScope ["parts"] ["parts"] (defScope s_is_word) := ⟨rfl, rfl, rfl, by decide +kernel, rfl, by decide +kernel, by decide +kernel⟩
theorem ok_is_word {R : Res} {f : Addr} {fd : FuncData} (F : Fun K "_is_word" "_is_word" s_is_word f fd) (T : Txt K mg) (D_is_text : DefP P w K mg base "is_text" 1 (F1 isText)) : FnG P w K mg base 2 f fd ["parts"] (spD K R (FP wordP)) := by
  refine FunD.ok F sc_is_word (fun ds q ⟨d, e, _⟩ => by rw [e]; rfl) (fun cdv A outer s H E ds q hr hgd h => ?_)
  obtain ⟨ps, rfl, hd, h⟩ := h
  refine ⟨_, (ss_one (s_ret (d_and (d_cmp opd_eq (opr_eq hr.units0) (d_callB cd_len call_len T.n_len (by decide +kernel) (a_cons (dv 0) a_nil)) d_int) (d_one (d_call (D_is_text _) (hr.mono (by omega)) hgd (a_cons (d_ix (dv 0) d_int) a_nil)))))), ?_⟩
  refine ⟨.tup ps, rfl, .tup ps, rfl, .inl ⟨ps, rfl, _, rfl, _, rfl, ?_⟩⟩
  by_cases hl : ps.length = 1
  · obtain ⟨a, rfl⟩ := len1 hl
    exact ifT rfl ⟨.tup [a], rfl, 0, rfl, .inl ⟨[a], a, rfl, rfl, a, rfl, hd a (by simp), h⟩⟩
  · exact ifF (len_ne hl) (qb h (P1_no hl).symm)
theorem sc_is_beat : FnScope ["parts"] ["parts"] (defScope s_is_beat) := ⟨rfl, rfl, rfl, by decide +kernel, rfl, by decide +kernel, by decide +kernel⟩
theorem ok_is_beat {R : Res} {f : Addr} {fd : FuncData} (F : Fun K "_is_beat" "_is_beat" s_is_beat f fd) (T : Txt K mg) (D_is_whole : DefP P w K mg base "is_whole" 1 FisWhole) : FnG P w K mg base 2 f fd ["parts"] (spD K R (FP beatP)) := by
  refine FunD.ok F sc_is_beat (fun ds q ⟨d, e, _⟩ => by rw [e]; rfl) (fun cdv A outer s H E ds q hr hgd h => ?_)
  obtain ⟨ps, rfl, hd, h⟩ := h
  refine ⟨_, (ss_one (s_ret (d_and (d_cmp opd_eq (opr_eq hr.units0) (d_callB cd_len call_len T.n_len (by decide +kernel) (a_cons (dv 0) a_nil)) d_int) (d_one (d_call (D_is_whole _) (hr.mono (by omega)) hgd (a_cons (d_ix (dv 0) d_int) (a_cons d_int (a_cons (d_gintT T.c_MOST_NUMBER) a_nil)))))))), ?_⟩
  refine ⟨.tup ps, rfl, .tup ps, rfl, .inl ⟨ps, rfl, _, rfl, _, rfl, ?_⟩⟩
  by_cases hl : ps.length = 1
  · obtain ⟨a, rfl⟩ := len1 hl
    exact ifT rfl ⟨.tup [a], rfl, 0, rfl, .inl ⟨[a], a, rfl, rfl, a, 0, 9999, rfl, hd a (by simp), h⟩⟩
  · exact ifF (len_ne hl) (qb h (P1_no hl).symm)
theorem sc_is_test : FnScope ["parts"] ["parts"] (defScope s_is_test) := ⟨rfl, rfl, rfl, by decide +kernel, rfl, by decide +kernel, by decide +kernel⟩
theorem ok_is_test {R : Res} {f : Addr} {fd : FuncData} (F : Fun K "_is_test" "_is_test" s_is_test f fd) (T : Txt K mg) (D_is_whole : DefP P w K mg base "is_whole" 1 FisWhole) : FnG P w K mg base 2 f fd ["parts"] (spD K R (FP testP)) := by
  refine FunD.ok F sc_is_test (fun ds q ⟨d, e, _⟩ => by rw [e]; rfl) (fun cdv A outer s H E ds q hr hgd h => ?_)
  obtain ⟨ps, rfl, hd, h⟩ := h
  refine ⟨_, (ss_one (s_ret (d_and (d_cmp opd_eq (opr_eq hr.units0) (d_callB cd_len call_len T.n_len (by decide +kernel) (a_cons (dv 0) a_nil)) d_int) (d_one (d_call (D_is_whole _) (hr.mono (by omega)) hgd (a_cons (d_ix (dv 0) d_int) (a_cons d_int (a_cons (d_gintT T.c_MOST_NUMBER) a_nil)))))))), ?_⟩
  refine ⟨.tup ps, rfl, .tup ps, rfl, .inl ⟨ps, rfl, _, rfl, _, rfl, ?_⟩⟩
  by_cases hl : ps.length = 1
  · obtain ⟨a, rfl⟩ := len1 hl
    exact ifT rfl ⟨.tup [a], rfl, 0, rfl, .inl ⟨[a], a, rfl, rfl, a, 1, 9999, rfl, hd a (by simp), h⟩⟩
  · exact ifF (len_ne hl) (qb h (P1_no hl).symm)
theorem sc_is_fill : FnScope ["parts"] ["parts"] (defScope s_is_fill) := ⟨rfl, rfl, rfl, by decide +kernel, rfl, by decide +kernel, by decide +kernel⟩
theorem ok_is_fill {R : Res} {f : Addr} {fd : FuncData} (F : Fun K "_is_fill" "_is_fill" s_is_fill f fd) (T : Txt K mg) (D_is_whole : DefP P w K mg base "is_whole" 1 FisWhole) : FnG P w K mg base 2 f fd ["parts"] (spD K R (FP fillP)) := by
  refine FunD.ok F sc_is_fill (fun ds q ⟨d, e, _⟩ => by rw [e]; rfl) (fun cdv A outer s H E ds q hr hgd h => ?_)
  obtain ⟨ps, rfl, hd, h⟩ := h
  refine ⟨_, (ss_one (s_ret (d_and (d_cmp opd_eq (opr_eq hr.units0) (d_callB cd_len call_len T.n_len (by decide +kernel) (a_cons (dv 0) a_nil)) d_int) (d_one (d_call (D_is_whole _) (hr.mono (by omega)) hgd (a_cons (d_ix (dv 0) d_int) (a_cons d_int (a_cons (d_op opd_add opr_add (d_gintT T.c_MOST_NUMBER) d_int) a_nil)))))))), ?_⟩
  refine ⟨.tup ps, rfl, .tup ps, rfl, .inl ⟨ps, rfl, _, rfl, _, rfl, ?_⟩⟩
  by_cases hl : ps.length = 1
  · obtain ⟨a, rfl⟩ := len1 hl
    exact ifT rfl ⟨.tup [a], rfl, 0, rfl, .inl ⟨[a], a, rfl, rfl, a, 2, 10000, rfl, hd a (by simp), h⟩⟩
  · exact ifF (len_ne hl) (qb h (P1_no hl).symm)
theorem sc_is_bye : FnScope ["parts"] ["parts"] (defScope s_is_bye) := ⟨rfl, rfl, rfl, by decide +kernel, rfl, by decide +kernel, by decide +kernel⟩
theorem ok_is_bye {R : Res} {f : Addr} {fd : FuncData} (F : Fun K "_is_bye" "_is_bye" s_is_bye f fd) (T : Txt K mg) : FnG P w K mg base 1 f fd ["parts"] (spD K R (FP byeP)) := by
  refine FunD.ok F sc_is_bye (fun ds q ⟨d, e, _⟩ => by rw [e]; rfl) (fun cdv A outer s H E ds q hr hgd h => ?_)
  obtain ⟨ps, rfl, hd, h⟩ := h
  refine ⟨_, (ss_one (s_ret (d_cmp opd_eq (opr_eq hr.units0) (d_callB cd_len call_len T.n_len (by decide +kernel) (a_cons (dv 0) a_nil)) d_int))), ?_⟩
  refine ⟨.tup ps, rfl, .tup ps, rfl, .inl ⟨ps, rfl, _, rfl, qb h ?_⟩⟩
  cases ps with
  | nil => rfl
  | cons a l => exact len_ne (by simp : ¬ (a :: l).length = 0)
theorem sc_is_ask : FnScope ["parts", "first", "last"] ["parts"] (defScope s_is_ask) := ⟨rfl, rfl, rfl, by decide +kernel, rfl, by decide +kernel, by decide +kernel⟩
theorem askP_no : ∀ {ps : List D}, ¬ ps.length = 2 → askP ps = false
  | [], _ => rfl
  | [a], _ => by cases a <;> rfl
  | [_, _], h => absurd rfl h
  | a :: _ :: _ :: _, _ => by cases a <;> rfl
theorem ok_is_ask {R : Res} {f : Addr} {fd : FuncData} (F : Fun K "_is_ask" "_is_ask" s_is_ask f fd) (T : Txt K mg) (D_is_whole : DefP P w K mg base "is_whole" 1 FisWhole) : FnG P w K mg base 2 f fd ["parts"] (spD K R (FP askP)) := by
  refine FunD.ok F sc_is_ask (fun ds q ⟨d, e, _⟩ => by rw [e]; rfl) (fun cdv A outer s H E ds q hr hgd h => ?_)
  obtain ⟨ps, rfl, hd, h⟩ := h
  refine ⟨_, (ss_cons (s_if (t_cmp opd_ne opr_ne (d_callB cd_len call_len T.n_len (by decide +kernel) (a_cons (dv 0) a_nil)) d_int) (ss_one (s_ret d_bl)) ss_nil) (ss_cons (s_unp (is := [1, 2]) rfl (pgs_cons (pg_name (i := 1) sc_is_ask.nd rfl (Or.inl rfl)) (pgs_cons (pg_name (i := 2) sc_is_ask.nd rfl (Or.inl rfl)) pgs_nil)) (dv 0)) (ss_cons (s_if (t_not (t_val (d_call (D_is_whole _) (hr.mono (by omega)) hgd (a_cons (dv 1) (a_cons d_int (a_cons (d_gintT T.c_MOST_NUMBER) a_nil)))))) (ss_one (s_ret d_bl)) ss_nil) (ss_one (s_ret (d_or (d_call (D_is_whole _) (hr.mono (by omega)) hgd (a_cons (dv 2) (a_cons d_int (a_cons d_int a_nil)))) (d_one (d_call (D_is_whole _) (hr.mono (by omega)) hgd (a_cons (dv 2) (a_cons (dv 1) (a_cons (d_gintT T.c_MOST_NUMBER) a_nil))))))))))), ?_⟩
  refine ⟨.tup ps, rfl, .tup ps, rfl, .inl ⟨ps, rfl, _, rfl, _, rfl, ?_⟩⟩
  by_cases hl : ps.length = 2
  · obtain ⟨a, b, rfl⟩ := len2 hl
    have ha := hd a (by simp)
    have hb := hd b (by simp)
    refine iteF ⟨.tup [a, b], rfl, [a, b], rfl, rfl, a, rfl, a, 1, 9999, rfl, ha, _, rfl, ?_⟩
    by_cases h1 : isWhole a 1 9999 = true
    · obtain ⟨i, rfl⟩ : ∃ i, a = .int i := by
        cases a <;> first | exact ⟨_, rfl⟩ | cases h1
      rw [h1]
      refine iteF ⟨b, rfl, b, 0, 0, rfl, hb, _, rfl, ?_⟩
      have e : askP [.int i, b] = (isWhole b 0 0 || isWhole b i 9999) := by
        show (isWhole (.int i) 1 9999 && _) = _
        rw [h1, Bool.true_and]
      rw [e] at h
      refine ifB (fun h2 => qb h (by rw [h2]; rfl)) (fun h2 => ⟨b, rfl, .int i, rfl, b, i, 9999, rfl, hb, qb h (by rw [h2, Bool.false_or])⟩)
    · have h1' := Bool.eq_false_iff.mpr h1
      rw [h1']
      refine iteT (qb h ?_)
      cases a <;> first | rfl | skip
      show _ = (isWhole (.int _) 1 9999 && _)
      rw [h1', Bool.false_and]
  · exact ifT (congrArg not (len_ne hl)) (qb h (askP_no hl).symm)
theorem sc_is_hello : FnScope ["parts", "turn", "top", "awaited", "past", "reset", "reply"] ["parts"] (defScope s_is_hello) := ⟨rfl, rfl, rfl, by decide +kernel, rfl, by decide +kernel, by decide +kernel⟩
theorem helloP_no : ∀ {ps : List D}, ¬ ps.length = 6 → helloP ps = false
  | [], _ => rfl
  | [_], _ => rfl
  | [_, _], _ => rfl
  | [_, _, _], _ => rfl
  | [_, _, _, _], _ => rfl
  | [_, _, _, _, _], _ => rfl
  | [_, _, _, _, _, _], h => absurd rfl h
  | _ :: _ :: _ :: _ :: _ :: _ :: _ :: _, _ => rfl
theorem ok_is_hello {R : Res} {f : Addr} {fd : FuncData} (F : Fun K "_is_hello" "_is_hello" s_is_hello f fd) (T : Txt K mg) (D_is_whole : DefP P w K mg base "is_whole" 1 FisWhole) (D_is_truth : DefP P w K mg base "is_truth" 1 (F1 isTruth)) : FnG P w K mg base 2 f fd ["parts"] (spD K R (FP helloP)) := by
  refine FunD.ok F sc_is_hello (fun ds q ⟨d, e, _⟩ => by rw [e]; rfl) (fun cdv A outer s H E ds q hr hgd h => ?_)
  obtain ⟨ps, rfl, hd, h⟩ := h
  refine ⟨_, (ss_cons (s_if (t_cmp opd_ne opr_ne (d_callB cd_len call_len T.n_len (by decide +kernel) (a_cons (dv 0) a_nil)) d_int) (ss_one (s_ret d_bl)) ss_nil) (ss_cons (s_unp (is := [1, 2, 3, 4, 5, 6]) rfl (pgs_cons (pg_name (i := 1) sc_is_hello.nd rfl (Or.inl rfl)) (pgs_cons (pg_name (i := 2) sc_is_hello.nd rfl (Or.inl rfl)) (pgs_cons (pg_name (i := 3) sc_is_hello.nd rfl (Or.inl rfl)) (pgs_cons (pg_name (i := 4) sc_is_hello.nd rfl (Or.inl rfl)) (pgs_cons (pg_name (i := 5) sc_is_hello.nd rfl (Or.inl rfl)) (pgs_cons (pg_name (i := 6) sc_is_hello.nd rfl (Or.inl rfl)) pgs_nil)))))) (dv 0)) (ss_cons (s_if (PW.pt (t_or (t_not (t_val (d_call (D_is_whole _) (hr.mono (by omega)) hgd (a_cons (dv 1) (a_cons d_int (a_cons (d_gintT T.c_MOST_ROUND) a_nil)))))) (t_or1 (t_not (t_val (d_call (D_is_whole _) (hr.mono (by omega)) hgd (a_cons (dv 2) (a_cons d_int (a_cons (d_gintT T.c_MOST_NUMBER) a_nil))))))))) (ss_one (s_ret d_bl)) ss_nil) (ss_cons (s_if (PW.pt (t_or (t_not (t_val (d_call (D_is_whole _) (hr.mono (by omega)) hgd (a_cons (dv 3) (a_cons d_int (a_cons (d_op opd_add opr_add (d_gintT T.c_MOST_NUMBER) d_int) a_nil)))))) (t_or1 (t_not (t_val (d_call (D_is_whole _) (hr.mono (by omega)) hgd (a_cons (dv 4) (a_cons d_int (a_cons (d_op opd_add opr_add (d_gintT T.c_MOST_NUMBER) d_int) a_nil))))))))) (ss_one (s_ret d_bl)) ss_nil) (ss_one (s_ret (d_and (d_call (D_is_truth _) (hr.mono (by omega)) hgd (a_cons (dv 5) a_nil)) (d_one (d_call (D_is_truth _) (hr.mono (by omega)) hgd (a_cons (dv 6) a_nil)))))))))), ?_⟩
  refine ⟨.tup ps, rfl, .tup ps, rfl, .inl ⟨ps, rfl, _, rfl, _, rfl, ?_⟩⟩
  by_cases hl : ps.length = 6
  · obtain ⟨a, b, c, d, e, f', rfl⟩ := len6 hl
    have ha := hd a (by simp)
    have hb := hd b (by simp)
    have hc := hd c (by simp)
    have hdd := hd d (by simp)
    have he := hd e (by simp)
    have hf := hd f' (by simp)
    refine iteF ⟨_, rfl, _, rfl, rfl, a, rfl, a, 0, 999, rfl, ha, _, rfl, ?_⟩
    have key : helloP [a, b, c, d, e, f'] = (isWhole a 0 999 && isWhole b 0 9999 && isWhole c 1 10000 && isWhole d 0 10000 && isTruth e && isTruth f') := rfl
    rw [key] at h
    cases h1 : isWhole a 0 999
    · exact iteT (iteT (qb h (by rw [h1]; rfl)))
    refine iteF ⟨b, rfl, b, 0, 9999, rfl, hb, _, rfl, ?_⟩
    cases h2 : isWhole b 0 9999
    · exact iteT (qb h (by rw [h1, h2]; rfl))
    refine iteF ⟨c, rfl, c, 1, 10000, rfl, hc, _, rfl, ?_⟩
    cases h3 : isWhole c 1 10000
    · exact iteT (iteT (qb h (by rw [h1, h2, h3]; rfl)))
    refine iteF ⟨d, rfl, d, 0, 10000, rfl, hdd, _, rfl, ?_⟩
    cases h4 : isWhole d 0 10000
    · exact iteT (qb h (by rw [h1, h2, h3, h4]; rfl))
    refine iteF ⟨e, rfl, e, rfl, he, _, rfl, ?_⟩
    rw [h1, h2, h3, h4] at h
    refine ifB (fun h5 => ⟨f', rfl, f', rfl, hf, qb h (by rw [h5]; rfl)⟩) (fun h5 => qb h (by rw [h5]; rfl))
  · exact ifT (congrArg not (len_ne hl)) (qb h (helloP_no hl).symm)
/-! ### bodies, letters -/
def bodyFn (z : Str) : Option (List D → Bool) := if z = "word" then some wordP else if z = "beat" then some beatP else if z = "test" then some testP else if z = "ask" then some askP else if z = "fill" then some fillP else if z = "hello" then some helloP else if z = "bye" then some byeP else none
def isBody : D → Bool
  | .tup (.str z :: ps) => (match bodyFn z with | some g => g ps | none => false)
  | _ => false
def goT (n : Int) (b : Bool) (z : Str) (ps : List D) : Bool :=
  if z = "hello" ∨ z = "bye" then decide (n = 0) && !b
  else if n = 0 then false
  else if z = "word" then true
  else if z = "fill" then b && (match ps with | [.int m] => decide (n < m) | _ => false)
  else !b
def isLetter : D → Bool
  | .tup [s, .int n, .bl b, .tup (.str z :: ps)] => isSide s && (decide (0 ≤ n) && decide (n ≤ 9999)) && isBody (.tup (.str z :: ps)) && goT n b z ps
  | _ => false
/-- where the tables of the module stand -/
structure Bod (P : Program) (w : World) (K : PySem.W.Frag) (mg : Str → Option Value) (base : Heap) (dB : Addr) (ad : Str → Option Addr) : Prop where
  m : mg "BODIES" = some (.ref dB)
  d : ∃ es n, KDict K w dB es n
  ns : ∀ z, PySem.W.nsIn K dB z = some ((ad z).map Value.ref)
  yes : ∀ z f, ad z = some f → ∃ g, bodyFn z = some g ∧ ∀ R : Res, HeldG P w K mg base 2 f (spD K R (FP g))
  no : ∀ z, ad z = none → bodyFn z = none
def HeldB (ad : Str → Option Addr) (f : Addr) (Fd : DCall) : Prop := ∃ z g, ad z = some f ∧ bodyFn z = some g ∧ Fd = FP g
def hasWord : D → Bool
  | .tup (.str _ :: _) => true
  | _ => false
theorem hasWord_shape {d : D} (h : hasWord d = true) : ∃ z ps, d = .tup (.str z :: ps) := by
  unfold hasWord at h
  split at h
  · exact ⟨_, _, rfl⟩
  · cases h
theorem sc_has_word : FnScope ["thing", "word"] ["thing"] (defScope s_has_word) := ⟨rfl, rfl, rfl, by decide +kernel, rfl, by decide +kernel, by decide +kernel⟩
theorem ok_has_word {R : Res} {f : Addr} {fd : FuncData} (F : Fun K "has_word" "has_word" s_has_word f fd) (T : Txt K mg) : FnG P w K mg base 1 f fd ["thing"] (spD K R (F1 hasWord)) := by
  refine FunD.ok F sc_has_word (fun ds q ⟨d, e, _⟩ => by rw [e]; rfl) (fun cdv A outer s H E ds q hr hgd h => ?_)
  obtain ⟨d, rfl, hd, h⟩ := h
  refine ⟨_, (ss_cons (s_if (PW.pt (t_or (t_cmp opd_ne opr_ne (d_callTy cd_type call_type1 T.n_type (by decide +kernel) (a_cons (dv 0) a_nil)) (d_ty (n := "tuple") T.n_tuple (by decide +kernel))) (t_or1 (t_cmp opd_eq (opr_eq hr.units0) (d_callB cd_len call_len T.n_len (by decide +kernel) (a_cons (dv 0) a_nil)) d_int)))) (ss_one (s_ret d_bl)) ss_nil) (ss_cons (s_set (i := 1) sc_has_word.nd (d_ix (dv 0) d_int)) (ss_one (s_ret (d_cmp opd_eq (opr_eq hr.units0) (d_callTy cd_type call_type1 T.n_type (by decide +kernel) (a_cons (dv 1) a_nil)) (d_ty (n := "str") T.n_str (by decide +kernel))))))), ?_⟩
  have ho := hd.obj
  refine ⟨d, rfl, d, rfl, ho, _, neD_ty ho (by decide), _, rfl, ?_⟩
  by_cases e : kindD d = "tuple"
  · obtain ⟨ps, rfl⟩ := kind_tuple ho e
    refine ifF (by rw [decide_eq_true e]; rfl) ⟨.tup ps, rfl, .tup ps, rfl, .inl ⟨ps, rfl, _, rfl, _, rfl, ?_⟩⟩
    cases ps with
    | nil => exact ifT rfl h
    | cons w0 ps =>
      have hw := hd.tup w0 (by simp)
      refine ifF (len_ne (by simp : ¬ (w0 :: ps).length = 0)) ⟨.tup (w0 :: ps), rfl, 0, rfl, .inl ⟨_, w0, rfl, atI_nat (j := 0) rfl, ?_⟩⟩
      refine ⟨w0, rfl, w0, rfl, hw.obj, _, eqD_ty hw.obj (by decide), qb h ?_⟩
      have hz := hw.obj
      cases w0 <;> first | rfl | cases hz
  · refine ifT (by rw [decide_eq_false e]; rfl) (qb h ?_)
    cases d <;> first | rfl | exact absurd rfl e
theorem sc_is_body : FnScope ["thing", "fits"] ["thing"] (defScope s_is_body) := ⟨rfl, rfl, rfl, by decide +kernel, rfl, by decide +kernel, by decide +kernel⟩
theorem ok_is_body {R : Res} {f : Addr} {fd : FuncData} {dB : Addr} {ad : Str → Option Addr} (F : Fun K "is_body" "is_body" s_is_body f fd) (T : Txt K mg) (B : Bod P w K mg base dB ad) (D_has_word : DefP P w K mg base "has_word" 1 (F1 hasWord)) : FnG P w K mg base 3 f fd ["thing"] (spD K R (F1 isBody)) := by
  refine FunD.ok F sc_is_body (fun ds q ⟨d, e, _⟩ => by rw [e]; rfl) (fun cdv A outer s H E ds q hr hgd h => ?_)
  obtain ⟨d, rfl, hd, h⟩ := h
  obtain ⟨es, n, hD⟩ := B.d
  have S_fits : ∀ f Fd, HeldB ad f Fd → HeldG P w K mg base 2 f (spD K R Fd) := fun f Fd ⟨z, g, h1, h2, h3⟩ => by
    subst h3
    obtain ⟨g', e1, e2⟩ := B.yes z f h1
    rw [h2] at e1
    cases e1
    exact e2 R
  refine ⟨_, (ss_cons (s_if (PW.pt (t_or (t_not (t_val (d_call (D_has_word _) (hr.mono (by omega)) hgd (a_cons (dv 0) a_nil)))) (t_or1 (t_cmp opd_notKd (op_notIn_kd hD) (d_ix (dv 0) d_int) (d_gptr B.m))))) (ss_one (s_ret d_bl)) ss_nil) (ss_cons (s_set (i := 1) sc_is_body.nd (d_ixKd (d_gptr B.m) (d_ix (dv 0) d_int))) (ss_one (s_ret (d_callA S_fits (hr.mono (by omega)) hgd (a_cons (d_slice (dv 0) (o_some d_int) o_none) a_nil) (i := 1)))))), ?_⟩
  refine ⟨d, rfl, d, rfl, hd, _, rfl, ?_⟩
  cases hw : hasWord d
  · refine iteT (iteT (qb h ?_))
    cases d with
    | tup ps =>
      cases ps with
      | nil => rfl
      | cons w0 ps => cases w0 <;> first | rfl | cases hw
    | _ => rfl
  obtain ⟨z, ps, rfl⟩ := hasWord_shape hw
  refine iteF ⟨.tup (.str z :: ps), rfl, 0, rfl, .inl ⟨_, .str z, rfl, atI_nat (j := 0) rfl, z, _, rfl, rfl, B.ns z, _, rfl, ?_⟩⟩
  cases ha : ad z with
  | none =>
    refine iteT (qb h ?_)
    show false = (match bodyFn z with | some g => g ps | none => false)
    rw [B.no z ha]
  | some f' =>
    obtain ⟨g, hg, _⟩ := B.yes z f' ha
    refine iteF ⟨.tup (.str z :: ps), rfl, 0, rfl, .inl ⟨_, .str z, rfl, atI_nat (j := 0) rfl, dB, z, f', rfl, rfl, ⟨es, n, .ref f', hD.at_, hD.lit, (B.ns z).trans (by rw [ha]; rfl), rfl⟩, ?_⟩⟩
    refine ⟨f', FP g, rfl, ⟨z, g, ha, hg, rfl⟩, .tup (.str z :: ps), rfl, 1, rfl, ps, ?_, fun d' m => hd.tup d' (List.mem_cons_of_mem _ m), ?_⟩
    · show [D.tup (Dl.cutD (.str z :: ps) (some 1) none)] = [D.tup ps]
      have : Dl.cutD (.str z :: ps) (some 1) none = ps := by
        show List.take ((ps.length + 1) - (HT.sIx (ps.length + 1) 0 (some ((1 : Nat) : Int)))) (List.drop (HT.sIx (ps.length + 1) 0 (some ((1 : Nat) : Int))) (.str z :: ps)) = ps
        rw [HT.sIx_nat]
        have : min 1 (ps.length + 1) = 1 := by omega
        rw [this]
        simp
      rw [this]
    · refine qb h ?_
      show g ps = (match bodyFn z with | some g => g ps | none => false)
      rw [hg]
theorem sc_go_together : FnScope ["number", "again", "body", "word"] ["number", "again", "body"] (defScope s_go_together) := ⟨rfl, rfl, rfl, by decide +kernel, rfl, by decide +kernel, by decide +kernel⟩
def FgoT : DCall := fun ds q => ∃ n b z ps, ds = [.int n, .bl b, .tup (.str z :: ps)] ∧ isBody (.tup (.str z :: ps)) = true ∧ q (.bl (goT n b z ps))
theorem fillP_int {ps : List D} (h : fillP ps = true) : ∃ m, ps = [.int m] := by
  cases ps with
  | nil => cases h
  | cons a l =>
    cases l with
    | nil => cases a <;> first | exact ⟨_, rfl⟩ | cases h
    | cons b l => cases h
theorem ok_go_together {R : Res} {f : Addr} {fd : FuncData} (F : Fun K "_go_together" "_go_together" s_go_together f fd) : FnG P w K mg base 1 f fd ["number", "again", "body"] (spD K R FgoT) := by
  refine FunD.ok F sc_go_together (fun ds q ⟨_, _, _, _, e, _⟩ => by rw [e]; rfl) (fun cdv A outer s H E ds q hr hgd h => ?_)
  obtain ⟨n, b, z, ps, rfl, hb, h⟩ := h
  refine ⟨_, (ss_cons (s_set (i := 3) sc_go_together.nd (d_ix (dv 2) d_int)) (ss_cons (s_if (PW.pt (t_or (t_cmp opd_eq (opr_eq hr.units0) (dv 3) d_str) (t_or1 (t_cmp opd_eq (opr_eq hr.units0) (dv 3) d_str)))) (ss_one (s_ret (d_and (d_cmp opd_eq (opr_eq hr.units0) (dv 0) d_int) (d_one (d_not (dv 1)))))) ss_nil) (ss_cons (s_if (t_cmp opd_eq (opr_eq hr.units0) (dv 0) d_int) (ss_one (s_ret d_bl)) ss_nil) (ss_cons (s_if (t_cmp opd_eq (opr_eq hr.units0) (dv 3) d_str) (ss_one (s_ret d_bl)) ss_nil) (ss_cons (s_if (t_cmp opd_eq (opr_eq hr.units0) (dv 3) d_str) (ss_one (s_ret (d_and (dv 1) (d_one (d_cmp opd_cmpI op_gt (d_ix (dv 2) d_int) (dv 0)))))) ss_nil) (ss_one (s_ret (d_not (dv 1))))))))), ?_⟩
  refine ⟨_, rfl, 0, rfl, .inl ⟨_, .str z, rfl, atI_nat (j := 0) rfl, ?_⟩⟩
  unfold goT at h
  refine ⟨.str z, rfl, _, rfl, _, rfl, ?_⟩
  by_cases h1 : z = "hello"
  · refine ifT (beq_iff_eq.mpr h1) (iteT ⟨.int n, rfl, _, rfl, _, rfl, ?_⟩)
    rw [if_pos (.inl h1)] at h
    refine ifB (fun hn => ⟨.bl b, rfl, b, rfl, qb h ?_⟩) fun hn => qb h ?_
    · rw [decide_eq_true (eq_of_beq hn)]; rfl
    · rw [decide_eq_false (beq_eq_false_iff_ne.mp hn)]; rfl
  refine ifF (beq_eq_false_iff_ne.mpr h1) ⟨.str z, rfl, _, rfl, _, rfl, ?_⟩
  by_cases h2 : z = "bye"
  · refine ifT (beq_iff_eq.mpr h2) ⟨.int n, rfl, _, rfl, _, rfl, ?_⟩
    rw [if_pos (.inr h2)] at h
    refine ifB (fun hn => ⟨.bl b, rfl, b, rfl, qb h ?_⟩) fun hn => qb h ?_
    · rw [decide_eq_true (eq_of_beq hn)]; rfl
    · rw [decide_eq_false (beq_eq_false_iff_ne.mp hn)]; rfl
  rw [if_neg (fun e => e.elim h1 h2)] at h
  refine ifF (beq_eq_false_iff_ne.mpr h2) ⟨.int n, rfl, _, rfl, _, rfl, ?_⟩
  by_cases h3 : n = 0
  · rw [if_pos h3] at h
    exact ifT (beq_iff_eq.mpr h3) h
  rw [if_neg h3] at h
  refine ifF (beq_eq_false_iff_ne.mpr h3) ⟨.str z, rfl, _, rfl, _, rfl, ?_⟩
  by_cases h4 : z = "word"
  · rw [if_pos h4] at h
    exact ifT (beq_iff_eq.mpr h4) h
  rw [if_neg h4] at h
  refine ifF (beq_eq_false_iff_ne.mpr h4) ⟨.str z, rfl, _, rfl, _, rfl, ?_⟩
  by_cases h5 : z = "fill"
  · subst h5
    rw [if_pos rfl] at h
    obtain ⟨m, rfl⟩ := fillP_int (ps := ps) hb
    refine ifT (beq_self_eq_true _) ⟨.bl b, rfl, b, rfl, ?_⟩
    refine ifB (fun hb' => ⟨_, rfl, 1, rfl, .inl ⟨_, .int m, rfl, rfl, .int n, rfl, m, n, rfl, rfl, trivial, qb h ?_⟩⟩) fun hb' => qb h ?_
    · rw [hb', Bool.true_and]
    · rw [hb', Bool.false_and]
  rw [if_neg h5] at h
  exact ifF (beq_eq_false_iff_ne.mpr h5) ⟨.bl b, rfl, b, rfl, h⟩
theorem sc_is_letter : FnScope ["thing", "sender", "number", "again", "body"] ["thing"] (defScope s_is_letter) := ⟨rfl, rfl, rfl, by decide +kernel, rfl, by decide +kernel, by decide +kernel⟩
theorem isLetter_no (ps : List D) (h : ¬ ps.length = 4) : isLetter (.tup ps) = false := by
  unfold isLetter
  split
  · rename_i e
    cases e
    exact absurd rfl h
  · rfl
theorem ok_is_letter {R : Res} {f : Addr} {fd : FuncData} (F : Fun K "is_letter" "is_letter" s_is_letter f fd) (T : Txt K mg) (D_is_side : DefP P w K mg base "is_side" 1 (F1 isSide)) (D_is_whole : DefP P w K mg base "is_whole" 1 FisWhole) (D_is_truth : DefP P w K mg base "is_truth" 1 (F1 isTruth))
    (D_is_body : DefP P w K mg base "is_body" 3 (F1 isBody)) (D_go_together : DefP P w K mg base "_go_together" 1 FgoT) : FnG P w K mg base 4 f fd ["thing"] (spD K R (F1 isLetter)) := by
  refine FunD.ok F sc_is_letter (fun ds q ⟨d, e, _⟩ => by rw [e]; rfl) (fun cdv A outer s H E ds q hr hgd h => ?_)
  obtain ⟨d, rfl, hd, h⟩ := h
  refine ⟨_, (ss_cons (s_if (PW.pt (t_or (t_cmp opd_ne opr_ne (d_callTy cd_type call_type1 T.n_type (by decide +kernel) (a_cons (dv 0) a_nil)) (d_ty (n := "tuple") T.n_tuple (by decide +kernel))) (t_or1 (t_cmp opd_ne opr_ne (d_callB cd_len call_len T.n_len (by decide +kernel) (a_cons (dv 0) a_nil)) d_int)))) (ss_one (s_ret d_bl)) ss_nil) (ss_cons (s_unp (is := [1, 2, 3, 4]) rfl (pgs_cons (pg_name (i := 1) sc_is_letter.nd rfl (Or.inl rfl)) (pgs_cons (pg_name (i := 2) sc_is_letter.nd rfl (Or.inl rfl)) (pgs_cons (pg_name (i := 3) sc_is_letter.nd rfl (Or.inl rfl)) (pgs_cons (pg_name (i := 4) sc_is_letter.nd rfl (Or.inl rfl)) pgs_nil)))) (dv 0)) (ss_cons (s_if (PW.pt (t_or (t_not (t_val (d_call (D_is_side _) (hr.mono (by omega)) hgd (a_cons (dv 1) a_nil)))) (t_or1 (t_not (t_val (d_call (D_is_whole _) (hr.mono (by omega)) hgd (a_cons (dv 2) (a_cons d_int (a_cons (d_gintT T.c_MOST_NUMBER) a_nil))))))))) (ss_one (s_ret d_bl)) ss_nil) (ss_cons (s_if (PW.pt (t_or (t_not (t_val (d_call (D_is_truth _) (hr.mono (by omega)) hgd (a_cons (dv 3) a_nil)))) (t_or1 (t_not (t_val (d_call (D_is_body _) (hr.mono (by omega)) hgd (a_cons (dv 4) a_nil))))))) (ss_one (s_ret d_bl)) ss_nil) (ss_one (s_ret (d_call (D_go_together _) (hr.mono (by omega)) hgd (a_cons (dv 2) (a_cons (dv 3) (a_cons (dv 4) a_nil)))))))))), ?_⟩
  have ho := hd.obj
  refine ⟨d, rfl, d, rfl, ho, _, neD_ty ho (by decide), _, rfl, ?_⟩
  by_cases e : kindD d = "tuple"
  · obtain ⟨ps, rfl⟩ := kind_tuple ho e
    refine ifF (by rw [decide_eq_true e]; rfl) ⟨.tup ps, rfl, .tup ps, rfl, .inl ⟨ps, rfl, _, rfl, _, rfl, ?_⟩⟩
    by_cases hl : ps.length = 4
    · obtain ⟨a, n, b, c, rfl⟩ := len4 hl
      have ha := hd.tup a (by simp)
      have hn := hd.tup n (by simp)
      have hb := hd.tup b (by simp)
      have hc := hd.tup c (by simp)
      refine iteF ⟨_, rfl, _, rfl, rfl, a, rfl, a, rfl, ha, _, rfl, ?_⟩
      have no : ∀ {x y z v : D}, (isSide x && isWhole y 0 9999 && isTruth z && isBody v) = false → isLetter (.tup [x, y, z, v]) = false := fun {x y z v} hq => by
        unfold isLetter
        split
        · rename_i e
          cases e
          rename_i m bb zz pps
          show (isSide x && (isWhole (.int m) 0 9999) && isBody _ && _) = false
          have : (isSide x && isWhole (.int m) 0 9999 && isBody (.tup (.str zz :: pps))) = false := by simpa [isTruth] using hq
          rw [this, Bool.false_and]
        · rfl
      cases h1 : isSide a
      · exact iteT (iteT (qb h (no (by rw [h1]; rfl)).symm))
      refine iteF ⟨n, rfl, n, 0, 9999, rfl, hn, _, rfl, ?_⟩
      cases h2 : isWhole n 0 9999
      · exact iteT (qb h (no (by rw [h1, h2]; rfl)).symm)
      refine iteF ⟨b, rfl, b, rfl, hb, _, rfl, ?_⟩
      cases h3 : isTruth b
      · exact iteT (iteT (qb h (no (by rw [h1, h2, h3]; rfl)).symm))
      refine iteF ⟨c, rfl, c, rfl, hc, _, rfl, ?_⟩
      cases h4 : isBody c
      · exact iteT (qb h (no (by rw [h1, h2, h3, h4]; rfl)).symm)
      obtain ⟨i, rfl⟩ : ∃ i, n = .int i := by cases n <;> first | exact ⟨_, rfl⟩ | cases h2
      obtain ⟨k, rfl⟩ : ∃ i, b = .bl i := by cases b <;> first | exact ⟨_, rfl⟩ | cases h3
      obtain ⟨z, ps, rfl⟩ : ∃ z ps, c = .tup (.str z :: ps) := by
        unfold isBody at h4
        split at h4
        · exact ⟨_, _, rfl⟩
        · cases h4
      refine iteF ⟨_, rfl, _, rfl, _, rfl, i, k, z, ps, rfl, h4, qb h ?_⟩
      show _ = (isSide a && isWhole (.int i) 0 9999 && isBody (.tup (.str z :: ps)) && goT i k z ps)
      rw [h1, h2, h4]
      rfl
    · exact ifT (congrArg not (len_ne hl)) (qb h (isLetter_no ps hl).symm)
  · refine ifT (by rw [decide_eq_false e]; rfl) (qb h ?_)
    cases d <;> first | rfl | exact absurd rfl e
end
end K3

set_option Elab.async false
set_option linter.all false
set_option maxRecDepth 100000
set_option maxHeartbeats 4000000
namespace K3
open PySem PySem.Spec PyProof.Rows L2 Dl TL
/-! ### letters as texts -/
def yn (b : Bool) : Str := if b = true then "yes" else "no"
def num (i : Int) : Str := Str.ofString (toString i)
def showP : D → Str
  | .bl b => yn b
  | .int i => num i
  | .str x => x
  | _ => ""
def figs : Str := "0123456789"
def SIGNS : Str := "abcdefghijklmnopqrstuvwxyz0123456789 =|,"
def isNumS (x : Str) : Bool := !(x == "") && x.cps.toList.all (fun c => decide (c ∈ figs.cps.toList)) && (x == "0" || (match x.cps.toList with | c :: _ => !((⟨#[c]⟩ : Str) == "0") | [] => false))
def readP (x : Str) : D :=
  if x = "yes" then .bl true else if x = "no" then .bl false else if isNumS x = true ∧ x.length ≤ 5 then (match PySem.intText? x with | some n => .int n | none => .non) else .non
def readB (x : Str) : D :=
  if (Txt.partition x "=").1 = "word" then .tup [.str (Txt.partition x "=").1, .str (Txt.partition x "=").2.2]
  else if (Txt.partition x "=").2.2 = "" then .tup [.str (Txt.partition x "=").1]
  else .tup (.str (Txt.partition x "=").1 :: (Txt.split (Txt.partition x "=").2.2 ",").map readP)
/-- ahead of |length -/
def aheadS (s : Str) (n : Int) (b : Bool) (z j : Str) : Str := Str.empty ++ "from=" ++ s ++ "|number=" ++ num n ++ "|again=" ++ yn b ++ "|" ++ z ++ "=" ++ j
def shownPs (ps : List D) : Str := Txt.join "," (ps.map showP)
def aheadD : D → Str
  | .tup [.str s, .int n, .bl b, .tup (.str z :: ps)] => aheadS s n b z (shownPs ps)
  | _ => ""
def sumL : Nat → Int → List Nat → Int
  | _, a, [] => a
  | k, a, c :: r => sumL (k + 1) (a + (Txt.find SIGNS ⟨#[c]⟩ + 1) * (1 + (k : Int))) r
def sumS (x : Str) : Int := sumL 0 0 x.cps.toList % 997
def lenS (a : Str) : Str := Str.empty ++ "length=" ++ num a.length
def sumT (a : Str) : Str := Str.empty ++ "sum=" ++ num (sumS a)
/-- a text closed by its length and its sum -/
def frontS (a : Str) : Str := Str.empty ++ a ++ "|" ++ "length=" ++ num a.length
def closeS (a : Str) : Str := Str.empty ++ frontS a ++ "|" ++ "sum=" ++ num (sumS (frontS a))
/-! signs -/
theorem tl_empty : tl Str.empty = [] := rfl
theorem len_append (x y : Str) : (x ++ y).length = x.length + y.length := by rw [len_tl, tl_append, List.length_append, ← len_tl, ← len_tl]
theorem num_nat {i : Int} (h : 0 ≤ i) : tl (num i) = numL i.toNat := by
  have := tl_num i.toNat
  rw [Int.toNat_of_nonneg h] at this
  exact this
theorem num_len {i : Int} (h : 0 ≤ i) (h2 : i < 100000) : (num i).length ≤ 5 := by
  rw [len_tl, num_nat h]
  exact numL_len (by decide) (by omega)
theorem num_free {i : Int} (h : 0 ≤ i) {c : Nat} (hc : c < 48 ∨ 57 < c) : c ∉ tl (num i) := by
  rw [num_nat h]
  exact numL_free hc
theorem fig_of {c : Nat} (h : 48 ≤ c) (h2 : c ≤ 57) : c ∈ figs.cps.toList := by
  have : ∀ d : Fin 10, 48 + d.val ∈ figs.cps.toList := by decide +kernel
  have e := this ⟨c - 48, by omega⟩
  have e2 : 48 + (c - 48) = c := by omega
  simpa [e2] using e
theorem of_fig {c : Nat} (h : c ∈ figs.cps.toList) : 48 ≤ c ∧ c ≤ 57 := by
  have : figs.cps.toList.all (fun c => decide (48 ≤ c ∧ c ≤ 57)) = true := by decide +kernel
  exact of_decide_eq_true (List.all_eq_true.mp this c h)
theorem numL_head : ∀ n : Nat, 0 < n → ∃ c r, numL n = c :: r ∧ c ≠ 48 := by
  intro n
  induction n using Nat.strongRecOn with
  | _ n ih =>
    intro h0
    by_cases h : n < 10
    · exact ⟨48 + n, [], numL_lt h, by omega⟩
    · obtain ⟨c, r, e, hc⟩ := ih (n / 10) (by omega) (by omega)
      exact ⟨c, r ++ [48 + n % 10], by rw [numL_step (by omega), e]; rfl, hc⟩
theorem tl_zero : tl ("0" : Str) = [48] := by decide +kernel
theorem isNum_num {i : Int} (h : 0 ≤ i) : isNumS (num i) = true := by
  unfold isNumS
  have e := num_nat h
  have hne : numL i.toNat ≠ [] := numL_ne _
  have h1 : (num i == "") = false := beq_eq_false_iff_ne.mpr fun q => hne (by rw [← e, q]; decide +kernel)
  rw [h1]
  have h2 : (num i).cps.toList.all (fun c => decide (c ∈ figs.cps.toList)) = true := by
    rw [List.all_eq_true]
    intro c hc
    have hd := numL_digits i.toNat c (e ▸ hc)
    exact decide_eq_true (fig_of hd.1 hd.2)
  rw [h2]
  by_cases h0 : i.toNat = 0
  · have : num i = "0" := ext_tl (by rw [e, h0, tl_zero]; exact numL_lt (by decide))
    rw [this]
    decide +kernel
  · obtain ⟨c, r, er, hc⟩ := numL_head i.toNat (by omega)
    have e2 : (num i).cps.toList = c :: r := by rw [← er]; exact e
    rw [e2]
    have h3 : ((⟨#[c]⟩ : Str) == "0") = false := beq_eq_false_iff_ne.mpr fun q => hc (by
      have q2 := congrArg tl q
      rw [tl_zero] at q2
      simpa [tl] using q2)
    simp [h3]
theorem isNum_digits {x : Str} (h : isNumS x = true) : NumText.AllDigits x.cps.toList ∧ x.cps.toList ≠ [] := by
  unfold isNumS at h
  simp only [Bool.and_eq_true] at h
  obtain ⟨⟨h1, h2⟩, _⟩ := h
  refine ⟨fun c hc => of_fig (of_decide_eq_true (List.all_eq_true.mp h2 c hc)), fun q => ?_⟩
  have : x = "" := ext_tl (by rw [show tl x = [] from q]; decide +kernel)
  rw [this] at h1
  revert h1
  decide +kernel
theorem isNum_int {x : Str} (h : isNumS x = true) (h5 : x.length ≤ 5) : ∃ n, PySem.intText? x = some n := ⟨_, intText_digits (isNum_digits h).1 (isNum_digits h).2 (by omega)⟩
theorem int_num' {i : Int} (h : 0 ≤ i) (h2 : i < 100000) : PySem.intText? (num i) = some i := by
  have := int_num (n := i.toNat) (by have := numL_len (n := i.toNat) (k := 5) (by decide) (by omega); omega)
  rw [Int.toNat_of_nonneg h] at this
  exact this
theorem tl_yes : tl ("yes" : Str) = [121, 101, 115] := by decide +kernel
theorem tl_no : tl ("no" : Str) = [110, 111] := by decide +kernel
theorem num_ne {i : Int} (h : 0 ≤ i) {x : Str} {c : Nat} (hc : c ∈ tl x) (h2 : c < 48 ∨ 57 < c) : num i ≠ x := fun q => num_free h h2 (q ▸ hc)
theorem read_num {i : Int} (h : 0 ≤ i) (h2 : i < 100000) : readP (num i) = .int i := by
  unfold readP
  rw [if_neg (num_ne h (c := 121) (by rw [tl_yes]; simp) (by omega)), if_neg (num_ne h (c := 110) (by rw [tl_no]; simp) (by omega)), if_pos ⟨isNum_num h, num_len h h2⟩, int_num' h h2]
theorem read_yn (b : Bool) : readP (yn b) = .bl b := by
  cases b
  · have e : yn false = "no" := rfl
    rw [e]
    unfold readP
    rw [if_neg (by decide +kernel), if_pos rfl]
  · have e : yn true = "yes" := rfl
    rw [e]
    unfold readP
    rw [if_pos rfl]
/-! ### bodies of letters -/
def simple (p : D) : Prop := (∃ i : Int, p = .int i ∧ 0 ≤ i ∧ i ≤ 10000) ∨ ∃ b, p = .bl b
def nums : List Str := ["beat", "test", "ask", "fill", "hello"]
def isBl : D → Bool | .bl _ => true | _ => false
def kindsOf (z : Str) : List Bool := if z = "hello" then [false, false, false, false, true, true] else if z = "ask" then [false, false] else [false]
theorem whole_bl {d : D} {lo hi : Int} (h : isWhole d lo hi = true) : isBl d = false := by
  cases d <;> first | rfl | cases h
theorem truth_bl {d : D} (h : isTruth d = true) : isBl d = true := by
  cases d <;> first | rfl | cases h
inductive BodyIs : Str → List D → Prop where
  | word {t : Str} (h : isText (.str t) = true) : BodyIs "word" [.str t]
  | bye : BodyIs "bye" []
  | nums {z : Str} {ps : List D} (hz : z ∈ nums) (h0 : ps ≠ []) (h6 : ps.length ≤ 6) (h : ∀ p ∈ ps, simple p) (hk : ps.map isBl = kindsOf z) : BodyIs z ps
theorem whole_int {d : D} {lo hi : Int} (h : isWhole d lo hi = true) : ∃ i, d = .int i ∧ lo ≤ i ∧ i ≤ hi := by
  cases d <;> first | (simp only [isWhole, Bool.and_eq_true, decide_eq_true_eq] at h; exact ⟨_, rfl, h.1, h.2⟩) | cases h
theorem simple_w {d : D} {lo hi : Int} (h : isWhole d lo hi = true) (h0 : 0 ≤ lo) (h1 : hi ≤ 10000) : simple d := by
  obtain ⟨i, rfl, a, b⟩ := whole_int h
  exact .inl ⟨i, rfl, by omega, by omega⟩
theorem simple_t {d : D} (h : isTruth d = true) : simple d := by
  cases d <;> first | exact .inr ⟨_, rfl⟩ | cases h
theorem P1_one {g : D → Bool} {ps : List D} (h : P1 g ps = true) : ∃ d, ps = [d] ∧ g d = true := by
  cases ps with
  | nil => cases h
  | cons a l =>
    cases l with
    | nil => exact ⟨a, rfl, h⟩
    | cons b l => cases h
theorem body_is {z : Str} {ps : List D} (h : isBody (.tup (.str z :: ps)) = true) : BodyIs z ps := by
  have h' : (match bodyFn z with | some g => g ps | none => false) = true := h
  unfold bodyFn at h'
  by_cases e0 : z = "word"
  · rw [if_pos e0] at h'
    obtain ⟨d, rfl, hd⟩ := P1_one h'
    subst e0
    cases d <;> first | exact .word hd | cases hd
  rw [if_neg e0] at h'
  have one : ∀ {lo hi : Int} {x : Str}, z = x → x ∈ nums → kindsOf x = [false] → P1 (fun d => isWhole d lo hi) ps = true → 0 ≤ lo → hi ≤ 10000 → BodyIs z ps := fun {lo hi x} e hm hk hp h0 h1 => by
    obtain ⟨d, rfl, hd⟩ := P1_one hp
    exact .nums (e ▸ hm) (by simp) (by simp) (fun p hp => by
      have := List.mem_singleton.mp hp
      subst this
      exact simple_w hd h0 h1) (by rw [e, hk]; show [isBl d] = _; rw [whole_bl hd])
  by_cases e1 : z = "beat"
  · rw [if_pos e1] at h'
    exact one e1 (by simp [nums]) (by decide +kernel) h' (by decide) (by decide)
  rw [if_neg e1] at h'
  by_cases e2 : z = "test"
  · rw [if_pos e2] at h'
    exact one e2 (by simp [nums]) (by decide +kernel) h' (by decide) (by decide)
  rw [if_neg e2] at h'
  by_cases e3 : z = "ask"
  · rw [if_pos e3] at h'
    have ha : askP ps = true := h'
    unfold askP at ha
    split at ha
    · rename_i a b
      simp only [Bool.and_eq_true, Bool.or_eq_true, decide_eq_true_eq] at ha
      have hb : isBl b = false := by
        rcases ha.2 with q | q
        · exact whole_bl q
        · exact whole_bl q
      refine .nums (by rw [e3]; simp [nums]) (by simp) (by simp) (fun p hp => ?_) (by rw [e3, show kindsOf "ask" = [false, false] by decide +kernel]; show [isBl (.int a), isBl b] = _; rw [hb]; rfl)
      rcases List.mem_cons.mp hp with rfl | hp
      · exact .inl ⟨_, rfl, by omega, by omega⟩
      · have := List.mem_singleton.mp hp
        subst this
        rcases ha.2 with q | q
        · exact simple_w q (by decide) (by decide)
        · exact simple_w q (by omega) (by decide)
    · cases ha
  rw [if_neg e3] at h'
  by_cases e4 : z = "fill"
  · rw [if_pos e4] at h'
    exact one e4 (by simp [nums]) (by decide +kernel) h' (by decide) (by decide)
  rw [if_neg e4] at h'
  by_cases e5 : z = "hello"
  · rw [if_pos e5] at h'
    have ha : helloP ps = true := h'
    unfold helloP at ha
    split at ha
    · simp only [Bool.and_eq_true] at ha
      obtain ⟨⟨⟨⟨⟨a1, a2⟩, a3⟩, a4⟩, a5⟩, a6⟩ := ha
      refine .nums (by rw [e5]; simp [nums]) (by simp) (by simp) (fun p hp => ?_) (by rw [e5, show kindsOf "hello" = [false, false, false, false, true, true] by decide +kernel]; simp [whole_bl a1, whole_bl a2, whole_bl a3, whole_bl a4, truth_bl a5, truth_bl a6])
      simp only [List.mem_cons, List.not_mem_nil, or_false] at hp
      rcases hp with rfl | rfl | rfl | rfl | rfl | rfl
      · exact simple_w a1 (by decide) (by decide)
      · exact simple_w a2 (by decide) (by decide)
      · exact simple_w a3 (by decide) (by decide)
      · exact simple_w a4 (by decide) (by decide)
      · exact simple_t a5
      · exact simple_t a6
    · cases ha
  rw [if_neg e5] at h'
  by_cases e6 : z = "bye"
  · rw [if_pos e6] at h'
    have hb : byeP ps = true := h'
    cases ps with
    | nil => rw [e6]; exact .bye
    | cons a l => cases hb
  rw [if_neg e6] at h'
  cases h'
structure LetterIs (s : Str) (n : Int) (b : Bool) (z : Str) (ps : List D) : Prop where
  s : s = "a" ∨ s = "b"
  n0 : 0 ≤ n
  n1 : n ≤ 9999
  body : BodyIs z ps
theorem letter_is {d : D} (h : isLetter d = true) : ∃ s n b z ps, d = .tup [.str s, .int n, .bl b, .tup (.str z :: ps)] ∧ LetterIs s n b z ps := by
  unfold isLetter at h
  split at h
  · rename_i s n b z ps
    simp only [Bool.and_eq_true, decide_eq_true_eq] at h
    obtain ⟨⟨⟨h1, h2, h3⟩, h4⟩, _⟩ := h
    have hs : ∃ x, s = .str x ∧ (x = "a" ∨ x = "b") := by
      cases s <;> first | (simp only [isSide, Bool.or_eq_true, beq_iff_eq] at h1; exact ⟨_, rfl, h1⟩) | cases h1
    obtain ⟨x, rfl, hx⟩ := hs
    exact ⟨x, n, b, z, ps, rfl, hx, h2, h3, body_is h4⟩
  · cases h
/-! signs that are not there -/
theorem yn_free {b : Bool} {c : Nat} (h : c < 97) : c ∉ tl (yn b) := by
  cases b
  · have e : tl (yn false) = [110, 111] := tl_no
    rw [e]; simp; omega
  · have e : tl (yn true) = [121, 101, 115] := tl_yes
    rw [e]; simp; omega
theorem simple_free {p : D} (h : simple p) {c : Nat} (hc : c < 48) : c ∉ tl (showP p) := by
  rcases h with ⟨i, rfl, h0, h1⟩ | ⟨b, rfl⟩
  · exact num_free h0 (.inl hc)
  · exact yn_free (by omega)
theorem simple_free2 {p : D} (h : simple p) : 124 ∉ tl (showP p) := by
  rcases h with ⟨i, rfl, h0, h1⟩ | ⟨b, rfl⟩
  · exact num_free h0 (.inr (by decide))
  · show 124 ∉ tl (yn b)
    cases b
    · have e : tl (yn false) = [110, 111] := tl_no
      rw [e]; decide
    · have e : tl (yn true) = [121, 101, 115] := tl_yes
      rw [e]; decide
theorem simple_len {p : D} (h : simple p) : (showP p).length ≤ 5 ∧ tl (showP p) ≠ [] := by
  rcases h with ⟨i, rfl, h0, h1⟩ | ⟨b, rfl⟩
  · exact ⟨num_len h0 (by omega), by show tl (num i) ≠ []; rw [num_nat h0]; exact numL_ne _⟩
  · cases b
    · exact ⟨by decide +kernel, by show tl (yn false) ≠ []; rw [show tl (yn false) = [110, 111] from tl_no]; simp⟩
    · exact ⟨by decide +kernel, by show tl (yn true) ≠ []; rw [show tl (yn true) = [121, 101, 115] from tl_yes]; simp⟩
theorem simple_read {p : D} (h : simple p) : readP (showP p) = p := by
  rcases h with ⟨i, rfl, h0, h1⟩ | ⟨b, rfl⟩
  · exact read_num h0 (by omega)
  · exact read_yn b
theorem text_free {t : Str} (h : isText (.str t) = true) {c : Nat} (hc : c ∉ signs.cps.toList) : c ∉ tl t := by
  have h' : (decide (1 ≤ t.length) && decide (t.length ≤ 20) && t.cps.toList.all (fun c => decide (c ∈ signs.cps.toList))) = true := h
  simp only [Bool.and_eq_true] at h'
  exact fun q => hc (of_decide_eq_true (List.all_eq_true.mp h'.2 c q))
theorem text_len {t : Str} (h : isText (.str t) = true) : t.length ≤ 20 ∧ tl t ≠ [] := by
  have h' : (decide (1 ≤ t.length) && decide (t.length ≤ 20) && t.cps.toList.all (fun c => decide (c ∈ signs.cps.toList))) = true := h
  simp only [Bool.and_eq_true, decide_eq_true_eq] at h'
  refine ⟨h'.1.2, fun q => ?_⟩
  have : t.length = 0 := by rw [len_tl, q]; rfl
  omega
/-! joined -/
theorem tl_comma : tl ("," : Str) = [44] := by decide +kernel
theorem tl_bar : tl ("|" : Str) = [124] := by decide +kernel
theorem tl_eq : tl ("=" : Str) = [61] := by decide +kernel
theorem join_tl (y : Str) (l : List Str) : tl (Txt.join y l) = joinL (tl y) (l.map tl) := by rw [join_eq, tl_join]
theorem joinL_free {c : Nat} {S : List Nat} (hS : c ∉ S) : ∀ {l : List (List Nat)}, (∀ p ∈ l, c ∉ p) → c ∉ joinL S l
  | [], _ => by simp [joinL]
  | [p], h => h p (by simp)
  | p :: q :: r, h => by
    show c ∉ p ++ (S ++ joinL S (q :: r))
    simp only [List.mem_append, not_or]
    exact ⟨h p (by simp), hS, joinL_free hS fun x hx => h x (List.mem_cons_of_mem _ hx)⟩
theorem joinL_ne {S p : List Nat} {l : List (List Nat)} (h : p ≠ []) : joinL S (p :: l) ≠ [] := by
  cases l with
  | nil => exact h
  | cons q r =>
    show p ++ (S ++ joinL S (q :: r)) ≠ []
    simp [h]
theorem joinL_len {S : List Nat} {k : Nat} (hS : S.length = 1) : ∀ {l : List (List Nat)}, (∀ p ∈ l, p.length ≤ k) → (joinL S l).length ≤ l.length * (k + 1)
  | [], _ => by simp [joinL]
  | [p], h => by
    have := h p (by simp)
    show p.length ≤ _
    simp; omega
  | p :: q :: r, h => by
    have h1 := h p (by simp)
    have h2 := joinL_len hS (l := q :: r) fun x hx => h x (List.mem_cons_of_mem _ hx)
    show (p ++ (S ++ joinL S (q :: r))).length ≤ _
    simp only [List.length_append, List.length_cons] at h2 ⊢
    rw [hS]
    have e : (r.length + 1 + 1) * (k + 1) = (r.length + 1) * (k + 1) + (k + 1) := by rw [Nat.add_mul (r.length + 1) 1, Nat.one_mul]
    omega
theorem shown_len {z : Str} {ps : List D} (h : BodyIs z ps) : (shownPs ps).length ≤ 40 := by
  unfold shownPs
  rw [len_tl, join_tl, tl_comma]
  cases h with
  | word h => 
    have := (text_len h).1
    rw [len_tl] at this
    exact Nat.le_trans this (by decide)
  | bye => exact Nat.zero_le _
  | nums hz h0 h6 h hk =>
    have := joinL_len (S := [44]) (k := 5) rfl (l := (ps.map showP).map tl) (fun p hp => by
      obtain ⟨y, hy, rfl⟩ := List.mem_map.mp hp
      obtain ⟨d, hd, rfl⟩ := List.mem_map.mp hy
      have := (simple_len (h d hd)).1
      rw [len_tl] at this
      exact this)
    rw [List.length_map, List.length_map] at this
    have e : ps.length * (5 + 1) ≤ 36 := by omega
    omega
theorem shown_bar {z : Str} {ps : List D} (h : BodyIs z ps) : 124 ∉ tl (shownPs ps) := by
  unfold shownPs
  rw [join_tl, tl_comma]
  cases h with
  | word h => exact text_free h (by decide +kernel)
  | bye => simp [joinL]
  | nums hz h0 h6 h hk =>
    refine joinL_free (by decide) fun p hp => ?_
    obtain ⟨y, hy, rfl⟩ := List.mem_map.mp hp
    obtain ⟨d, hd, rfl⟩ := List.mem_map.mp hy
    exact simple_free2 (h d hd)
theorem word_sign {z : Str} {ps : List D} (h : BodyIs z ps) : z.length ≤ 5 ∧ 124 ∉ tl z ∧ 61 ∉ tl z := by
  have key : ∀ z ∈ (["word", "bye", "beat", "test", "ask", "fill", "hello"] : List Str), z.length ≤ 5 ∧ 124 ∉ tl z ∧ 61 ∉ tl z := by decide +kernel
  refine key z ?_
  cases h with
  | word h => simp
  | bye => simp
  | nums hz _ _ _ _ => 
    simp only [nums, List.mem_cons, List.not_mem_nil, or_false] at hz
    simp only [List.mem_cons, List.not_mem_nil, or_false]
    rcases hz with q | q | q | q | q <;> simp [q]
theorem read_body {z : Str} {ps : List D} (h : BodyIs z ps) : readB (z ++ "=" ++ shownPs ps) = .tup (.str z :: ps) := by
  have hp : Txt.partition (z ++ "=" ++ shownPs ps) "=" = ((z, "=", shownPs ps) : Str × Str × Str) := partition_app (s := 61) (S := []) tl_eq (word_sign h).2.2
  unfold readB
  rw [hp]
  cases h with
  | word h => rw [if_pos rfl]; rfl
  | bye => rw [if_neg (by decide +kernel), if_pos (by decide +kernel)]
  | nums hz h0 h6 h hk =>
    have hw : z ≠ "word" := by
      have : ∀ z ∈ nums, z ≠ "word" := by decide +kernel
      exact this z hz
    have he : shownPs ps ≠ "" := fun q => by
      have q2 := congrArg tl q
      unfold shownPs at q2
      rw [join_tl] at q2
      cases ps with
      | nil => exact h0 rfl
      | cons p l => exact joinL_ne (simple_len (h p (by simp))).2 (q2.trans (by decide +kernel))
    rw [if_neg hw, if_neg he]
    have hs : Txt.split (shownPs ps) "," = ps.map showP := split_join (s := 44) (S := []) tl_comma (by decide +kernel) (by simpa using h0) (fun p hp => by
      obtain ⟨d, hd, rfl⟩ := List.mem_map.mp hp
      exact simple_free (h d hd) (by decide))
    show D.tup (.str z :: (Txt.split (shownPs ps) ",").map readP) = _
    rw [hs, List.map_map]
    have : ∀ l : List D, (∀ p ∈ l, simple p) → l.map (readP ∘ showP) = l := fun l hl => by
      induction l with
      | nil => rfl
      | cons a l ih => rw [List.map_cons, ih fun p hp => hl p (List.mem_cons_of_mem _ hp)]; exact congrArg (· :: l) (simple_read (hl a (by simp)))
    rw [this ps h]
/-! ahead, in its parts -/
theorem side_free {s : Str} (h : s = "a" ∨ s = "b") : s.length = 1 ∧ 124 ∉ tl s := by
  rcases h with rfl | rfl <;> decide +kernel
def headsOf (s : Str) (n : Int) (b : Bool) (z j : Str) : List Str := ["from=" ++ s, "number=" ++ num n, "again=" ++ yn b, z ++ "=" ++ j]
theorem ahead_join (s : Str) (n : Int) (b : Bool) (z j : Str) : aheadS s n b z j = Txt.join "|" (headsOf s n b z j) := by
  refine ext_tl ?_
  have e1 : tl ("|number=" : Str) = tl ("|" : Str) ++ tl ("number=" : Str) := by decide +kernel
  have e2 : tl ("|again=" : Str) = tl ("|" : Str) ++ tl ("again=" : Str) := by decide +kernel
  unfold aheadS headsOf
  rw [join_tl]
  simp only [tl_append, e1, e2, tl_empty, List.map_cons, List.map_nil, joinL, List.nil_append, List.append_assoc]
theorem ahead_split {s : Str} {n : Int} {b : Bool} {z : Str} {ps : List D} (h : LetterIs s n b z ps) : Txt.split (aheadS s n b z (shownPs ps)) "|" = headsOf s n b z (shownPs ps) := by
  rw [ahead_join]
  refine split_join (s := 124) (S := []) tl_bar (by decide +kernel) (by unfold headsOf; simp) fun p hp => ?_
  unfold headsOf at hp
  simp only [List.mem_cons, List.not_mem_nil, or_false] at hp
  rcases hp with rfl | rfl | rfl | rfl
  · rw [tl_append, List.mem_append, not_or]
    exact ⟨by decide +kernel, (side_free h.s).2⟩
  · rw [tl_append, List.mem_append, not_or]
    exact ⟨by decide +kernel, num_free h.n0 (by decide)⟩
  · rw [tl_append, List.mem_append, not_or]
    exact ⟨by decide +kernel, fun q => by cases b; exact absurd (show 124 ∈ [110, 111] from tl_no ▸ q) (by decide); exact absurd (show 124 ∈ [121, 101, 115] from tl_yes ▸ q) (by decide)⟩
  · rw [tl_append, tl_append, List.mem_append, List.mem_append, not_or, not_or]
    exact ⟨⟨(word_sign h.body).2.1, by decide +kernel⟩, shown_bar h.body⟩
theorem part_from (s : Str) : Txt.partition ("from=" ++ s) "=" = (("from", "=", s) : Str × Str × Str) := by
  have e : ("from=" ++ s : Str) = "from" ++ "=" ++ s := ext_tl (by
    have : tl ("from=" : Str) = tl ("from" : Str) ++ tl ("=" : Str) := by decide +kernel
    rw [tl_append, tl_append, tl_append, this])
  rw [e]
  exact partition_app (s := 61) (S := []) tl_eq (by decide +kernel)
theorem part_number (s : Str) : Txt.partition ("number=" ++ s) "=" = (("number", "=", s) : Str × Str × Str) := by
  have e : ("number=" ++ s : Str) = "number" ++ "=" ++ s := ext_tl (by
    have : tl ("number=" : Str) = tl ("number" : Str) ++ tl ("=" : Str) := by decide +kernel
    rw [tl_append, tl_append, tl_append, this])
  rw [e]
  exact partition_app (s := 61) (S := []) tl_eq (by decide +kernel)
theorem part_again (s : Str) : Txt.partition ("again=" ++ s) "=" = (("again", "=", s) : Str × Str × Str) := by
  have e : ("again=" ++ s : Str) = "again" ++ "=" ++ s := ext_tl (by
    have : tl ("again=" : Str) = tl ("again" : Str) ++ tl ("=" : Str) := by decide +kernel
    rw [tl_append, tl_append, tl_append, this])
  rw [e]
  exact partition_app (s := 61) (S := []) tl_eq (by decide +kernel)
/-! the whole text -/
theorem emp_app (x : Str) : Str.empty ++ x = x := ext_tl (by rw [tl_append, tl_empty, List.nil_append])
theorem sum_mod (x : Str) : 0 ≤ sumS x ∧ sumS x < 997 := ⟨Int.emod_nonneg _ (by decide), Int.emod_lt_of_pos _ (by decide)⟩
theorem close_rsplit (a : Str) : Txt.rsplitMax (closeS a) "|" 2 = [a, lenS a, sumT (frontS a)] := by
  have e : closeS a = a ++ ⟨#[124]⟩ ++ lenS a ++ ⟨#[124]⟩ ++ sumT (frontS a) := by
    unfold closeS lenS sumT
    rw [emp_app, emp_app, emp_app]
    refine ext_tl ?_
    have hb : tl ("|" : Str) = tl (⟨#[124]⟩ : Str) := by decide +kernel
    simp only [tl_append, hb, List.append_assoc]
    unfold frontS
    rw [emp_app]
    simp only [tl_append, hb, List.append_assoc]
  have hb : ("|" : Str) = ⟨#[124]⟩ := by decide +kernel
  rw [hb]
  refine rsplit2 (by decide) e ?_ ?_
  · unfold lenS
    rw [emp_app, tl_append, List.mem_append, not_or]
    exact ⟨by decide +kernel, num_free (by omega) (by decide)⟩
  · unfold sumT
    rw [emp_app, tl_append, List.mem_append, not_or]
    exact ⟨by decide +kernel, num_free (sum_mod _).1 (by decide)⟩
theorem starts_app (x y : Str) : Txt.startswith (x ++ y) x = true := by
  unfold Txt.startswith
  rw [Bool.and_eq_true]
  refine ⟨by rw [len_append]; simp, ?_⟩
  rw [PySem.StrLaws.subAt_eq]
  rw [List.drop_zero]
  show (((tl (x ++ y)).take x.length) == tl x) = true
  rw [tl_append, len_tl x, List.take_left]
  exact beq_self_eq_true _
theorem cut_app (x y : Str) : cutS (x ++ y) (some (x.length : Int)) none = y := by
  refine ext_tl ?_
  unfold cutS
  show ((tl (x ++ y)).drop (HT.sIx (x ++ y).length 0 (some (x.length : Int)))).take ((x ++ y).length - HT.sIx (x ++ y).length 0 (some (x.length : Int))) = tl y
  rw [HT.sIx_nat, len_append, Nat.min_eq_left (by omega), tl_append, len_tl x, List.drop_left, List.take_of_length_le (by rw [len_tl y]; omega)]
/-! the bounds -/
theorem ahead_len {s : Str} {n : Int} {b : Bool} {z : Str} {ps : List D} (h : LetterIs s n b z ps) : (aheadS s n b z (shownPs ps)).length ≤ 90 := by
  unfold aheadS
  have h1 := (side_free h.s).1
  have h2 := num_len h.n0 (i := n) (by have := h.n1; omega)
  have h3 : (yn b).length ≤ 3 := by cases b <;> decide +kernel
  have h4 := (word_sign h.body).1
  have h5 := shown_len h.body
  have l1 : ("from=" : Str).length = 5 := by decide +kernel
  have l2 : ("|number=" : Str).length = 8 := by decide +kernel
  have l3 : ("|again=" : Str).length = 7 := by decide +kernel
  have l4 : ("|" : Str).length = 1 := by decide +kernel
  have l5 : ("=" : Str).length = 1 := by decide +kernel
  have l0 : Str.empty.length = 0 := rfl
  simp only [len_append, l0, l1, l2, l3, l4, l5]
  omega
/-! ### two letters -/
theorem close_inj {a a' : Str} (h : closeS a = closeS a') : a = a' := by
  have := close_rsplit a
  rw [h, close_rsplit a'] at this
  injection this with h1 _
  exact h1.symm
theorem num_inj {n m : Int} (hn : 0 ≤ n) (hm : 0 ≤ m) (h : num n = num m) : n = m := by
  have e := congrArg tl h
  rw [num_nat hn, num_nat hm] at e
  have := numL_inj e
  omega
theorem yn_inj {b c : Bool} (h : yn b = yn c) : b = c := by
  have e := read_yn b
  rw [h, read_yn c] at e
  injection e with e
  exact e.symm
theorem ahead_inj {s s' : Str} {n n' : Int} {b b' : Bool} {z z' : Str} {ps ps' : List D} (L : LetterIs s n b z ps) (L' : LetterIs s' n' b' z' ps') (h : aheadS s n b z (shownPs ps) = aheadS s' n' b' z' (shownPs ps')) : s = s' ∧ n = n' ∧ b = b' ∧ z = z' ∧ ps = ps' := by
  have e := ahead_split L
  rw [h, ahead_split L'] at e
  unfold headsOf at e
  simp only [List.cons.injEq, and_true] at e
  obtain ⟨e1, e2, e3, e4⟩ := e
  have f1 : s' = s := by
    have := part_from s'
    rw [e1, part_from s] at this
    injection this with _ q
    injection q with _ q
    exact q.symm
  have f2 : n' = n := num_inj L'.n0 L.n0 (by
    have := part_number (num n')
    rw [e2, part_number (num n)] at this
    injection this with _ q
    injection q with _ q
    exact q.symm)
  have f3 : b' = b := yn_inj (by
    have := part_again (yn b')
    rw [e3, part_again (yn b)] at this
    injection this with _ q
    injection q with _ q
    exact q.symm)
  have f4 := read_body L'.body
  rw [e4, read_body L.body] at f4
  injection f4 with f4
  injection f4 with f4 f5
  injection f4 with f4
  exact ⟨f1.symm, f2.symm, f3.symm, f4, f5⟩
theorem simple_eqv {p p' : D} (h : simple p) (h' : simple p') (hk : isBl p = isBl p') (e : PyData.eqv p.py p'.py = true) : p = p' := by
  rcases h with ⟨i, rfl, _⟩ | ⟨b, rfl⟩
  · rcases h' with ⟨j, rfl, _⟩ | ⟨c, rfl⟩
    · have : (i == j) = true := by simpa only [D.py, PyData.eqv] using e
      rw [eq_of_beq this]
    · cases hk
  · rcases h' with ⟨j, rfl, _⟩ | ⟨c, rfl⟩
    · cases hk
    · have : (b == c) = true := by simpa only [D.py, PyData.eqv] using e
      rw [eq_of_beq this]
theorem simples_eqv : ∀ {ps ps' : List D}, (∀ p ∈ ps, simple p) → (∀ p ∈ ps', simple p) → ps.map isBl = ps'.map isBl → PyData.eqvAll (D.pys ps) (D.pys ps') = true → ps = ps'
  | [], [], _, _, _, _ => rfl
  | [], _ :: _, _, _, hk, _ => by cases hk
  | _ :: _, [], _, _, hk, _ => by cases hk
  | p :: ps, p' :: ps', h, h', hk, e => by
    simp only [List.map_cons, List.cons.injEq] at hk
    simp only [D.pys, PyData.eqvAll, Bool.and_eq_true] at e
    rw [simple_eqv (h p (by simp)) (h' p' (by simp)) hk.1 e.1, simples_eqv (fun q m => h q (List.mem_cons_of_mem _ m)) (fun q m => h' q (List.mem_cons_of_mem _ m)) hk.2 e.2]
theorem word_not_nums : ∀ z ∈ nums, z ≠ "word" ∧ z ≠ "bye" := by decide +kernel
theorem body_eqv {z : Str} {ps ps' : List D} (B : BodyIs z ps) (B' : BodyIs z ps') (e : PyData.eqvAll (D.pys ps) (D.pys ps') = true) : ps = ps' := by
  generalize ez : z = z' at B'
  cases B with
  | word h =>
    cases B' with
    | word h' =>
      simp only [D.pys, D.py, PyData.eqvAll, PyData.eqv, Bool.and_true] at e
      rw [eq_of_beq e]
    | bye => exact absurd ez (by decide +kernel)
    | nums hz _ _ _ _ => exact absurd ez.symm (word_not_nums _ hz).1
  | bye =>
    cases B' with
    | word h' => exact absurd ez (by decide +kernel)
    | bye => rfl
    | nums hz _ _ _ _ => exact absurd ez.symm (word_not_nums _ hz).2
  | nums hz h0 h6 h hk =>
    cases B' with
    | word h' => exact absurd ez (word_not_nums _ hz).1
    | bye => exact absurd ez (word_not_nums _ hz).2
    | nums hz' h0' h6' h' hk' =>
      subst ez
      exact simples_eqv h h' (hk.trans hk'.symm) e
theorem simple_self {p : D} (h : simple p) : PyData.eqv p.py p.py = true := by
  rcases h with ⟨i, rfl, _⟩ | ⟨b, rfl⟩
  · simp only [D.py, PyData.eqv, beq_self_eq_true]
  · simp only [D.py, PyData.eqv, beq_self_eq_true]
theorem simples_self : ∀ {ps : List D}, (∀ p ∈ ps, simple p) → PyData.eqvAll (D.pys ps) (D.pys ps) = true
  | [], _ => by simp only [D.pys, PyData.eqvAll]
  | p :: ps, h => by
    simp only [D.pys, PyData.eqvAll, Bool.and_eq_true]
    exact ⟨simple_self (h p (by simp)), simples_self fun q m => h q (List.mem_cons_of_mem _ m)⟩
theorem body_self {z : Str} {ps : List D} (B : BodyIs z ps) : PyData.eqvAll (D.pys ps) (D.pys ps) = true := by
  cases B with
  | word h => simp only [D.pys, D.py, PyData.eqvAll, PyData.eqv, beq_self_eq_true, Bool.and_self]
  | bye => simp only [D.pys, PyData.eqvAll]
  | nums hz h0 h6 h hk => exact simples_self h
theorem letter_eqv {d d' : D} (h : isLetter d = true) (h' : isLetter d' = true) : PyData.eqv d.py d'.py = (closeS (aheadD d) == closeS (aheadD d')) := by
  obtain ⟨s, n, b, z, ps, rfl, L⟩ := letter_is h
  obtain ⟨s', n', b', z', ps', rfl, L'⟩ := letter_is h'
  have key : PyData.eqv (D.tup [.str s, .int n, .bl b, .tup (.str z :: ps)]).py (D.tup [.str s', .int n', .bl b', .tup (.str z' :: ps')]).py = ((s == s') && ((n == n') && ((b == b') && (((z == z') && PyData.eqvAll (D.pys ps) (D.pys ps')) && true)))) := by
    simp only [D.py, D.pys, PyData.eqv, PyData.eqvAll]
  rw [key]
  have hs : aheadD (.tup [.str s, .int n, .bl b, .tup (.str z :: ps)]) = aheadS s n b z (shownPs ps) := rfl
  have hs' : aheadD (.tup [.str s', .int n', .bl b', .tup (.str z' :: ps')]) = aheadS s' n' b' z' (shownPs ps') := rfl
  rw [hs, hs']
  apply Bool.eq_iff_iff.mpr
  simp only [Bool.and_eq_true, beq_iff_eq, and_true]
  constructor
  · rintro ⟨rfl, rfl, rfl, rfl, e⟩
    rw [body_eqv L.body L'.body e]
  · intro e
    obtain ⟨rfl, rfl, rfl, rfl, rfl⟩ := ahead_inj L L' (close_inj e)
    exact ⟨rfl, rfl, rfl, rfl, body_self L.body⟩
end K3

set_option Elab.async false
set_option linter.all false
set_option maxRecDepth 100000
set_option maxHeartbeats 4000000
namespace K3
open PySem PySem.Spec PyProof.Rows L2 Dl TL
section
variable {P : Program} {w : World} {K : PySem.W.Frag} {mg : Str → Option Value} {base : Heap}
theorem lc_map {i : Nat} {te : TDE} {ρ : DE} {q : D → Prop} {ds : List D} (g : D → D) (hz : ds.length ≤ sizeLine) (hel : ∀ d ∈ ds, te (ρ.set i (some d)) fun e => e = g d) (h : q (.seq (ds.map g))) :
    ds.length ≤ sizeLine ∧ ∃ Pj : Nat → D → Prop, (∀ j d, ds[j]? = some d → te (ρ.set i (some d)) (Pj j)) ∧ ∀ es : List D, es.length = ds.length → (∀ (j : Nat) (e : D), es[j]? = some e → Pj j e) → q (.seq es) := by
  refine ⟨hz, fun j e => ∀ d, ds[j]? = some d → e = g d, fun j d hj => ?_, fun es hl hP => ?_⟩
  · have e : (fun e => ∀ d', ds[j]? = some d' → e = g d') = fun e => e = g d := by
      funext x
      apply propext
      constructor
      · exact fun h => h d hj
      · intro h d' hd
        rw [hj] at hd
        cases hd
        exact h
    show te (ρ.set i (some d)) (fun e => ∀ d', ds[j]? = some d' → e = g d')
    rw [e]
    exact hel d (List.mem_of_getElem? hj)
  · have : es = ds.map g := by
      apply List.ext_getElem?
      intro j
      rw [List.getElem?_map]
      cases he : es[j]? with
      | none =>
        have : es.length ≤ j := List.getElem?_eq_none_iff.mp he
        rw [List.getElem?_eq_none (by omega)]
        rfl
      | some e =>
        have hj : j < es.length := (List.getElem?_eq_some_iff.mp he).1
        have hc : ds[j]? = some (ds[j]'(by omega)) := List.getElem?_eq_getElem _
        rw [hP j e he _ hc, hc]
        rfl
    rw [this]
    exact h
theorem vLc_map {i : Nat} {w : TDI} {te : TDE} {ρ : DE} {q : D → Prop} (ds : List D) (g : D → D) (hw : ∀ Q : List D → Prop, Q ds → w ρ Q) (hz : ds.length ≤ 1000000) (hel : ∀ d ∈ ds, te (ρ.set i (some d)) fun e => e = g d) (h : q (.seq (ds.map g))) : vLc i w te ρ q :=
  hw _ (lc_map g (by rw [sizeLine_eq]; omega) hel h)
def codeD : D → Nat | .str x => x.cps.toList.headD 0 | _ => 0
theorem vLc_signs {i : Nat} {w : TDI} {te : TDE} {ρ : DE} {q : D → Prop} (x : Str) (g : Nat → D) (hw : ∀ Q : List D → Prop, Q (x.cps.toList.map fun c => .str ⟨#[c]⟩) → w ρ Q) (hz : x.length ≤ 1000000) (hel : ∀ c ∈ x.cps.toList, te (ρ.set i (some (.str ⟨#[c]⟩))) fun e => e = g c) (h : q (.seq (x.cps.toList.map g))) : vLc i w te ρ q := by
  refine vLc_map _ (fun d => g (codeD d)) hw (by rw [List.length_map]; rw [len_tl] at hz; exact hz) (fun d hd => ?_) ?_
  · obtain ⟨c, hc, rfl⟩ := List.mem_map.mp hd
    exact hel c hc
  · rw [List.map_map]
    exact h
theorem allC_of {bs : List Bool} {q : D → Prop} (h : q (.bl (bs.all id))) : allC [.seq (bs.map .bl)] q := ⟨_, bs, rfl, .inr rfl, h⟩
theorem allC_signs {l : List Nat} {g : Nat → Bool} {q : D → Prop} (h : q (.bl (l.all g))) : allC [.seq (l.map fun c => .bl (g c))] q := by
  have e : (l.map fun c => D.bl (g c)) = (l.map g).map .bl := by rw [List.map_map]; rfl
  rw [e]
  exact allC_of (by rw [List.all_map]; exact h)
theorem vAll_signs {i : Nat} {w : TDI} {te : TDE} {ρ : DE} {q : D → Prop} (x : Str) (g : Nat → Bool) (hw : ∀ Q : List D → Prop, Q (x.cps.toList.map fun c => .str ⟨#[c]⟩) → w ρ Q) (hz : x.length ≤ 1000000) (hel : ∀ c ∈ x.cps.toList, te (ρ.set i (some (.str ⟨#[c]⟩))) fun e => e = .bl (g c)) (h : q (.bl (x.cps.toList.all g))) : vCall allC (vCons (vLc i w te) vNil) ρ q := by
  show vLc i w te ρ fun d => allC [d] q
  exact vLc_signs x (fun c => .bl (g c)) hw hz hel (allC_signs h)
theorem vTupC_map {i : Nat} {w : TDI} {te : TDE} {ρ : DE} {q : D → Prop} (ds : List D) (g : D → D) (hw : ∀ Q : List D → Prop, Q ds → w ρ Q) (hz : ds.length ≤ 1000000) (hel : ∀ d ∈ ds, te (ρ.set i (some d)) fun e => e = g d) (h : q (.tup (ds.map g))) : vCall tupleC (vCons (vLc i w te) vNil) ρ q := by
  show vLc i w te ρ fun d => tupleC [d] q
  exact vLc_map ds g hw hz hel ⟨_, _, rfl, .inr rfl, h⟩
theorem sUnpL_map {is : List Nat} {i : Nat} {w : TDI} {te : TDE} {ρ : DE} {e : DEnds} (ds : List D) (g : D → D) (hw : ∀ Q : List D → Prop, Q ds → w ρ Q) (hz : ds.length ≤ 1000000) (hel : ∀ d ∈ ds, te (ρ.set i (some d)) fun e => e = g d) (hl : ds.length = is.length) (h : e.nx (setAll is (ds.map g) ρ)) : sUnpL is (vLc i w te) e ρ := by
  show vLc i w te ρ fun d => ∃ ds, lstOf d ds ∧ ds.length = is.length ∧ e.nx (setAll is ds ρ)
  exact vLc_map ds g hw hz hel ⟨_, .inr rfl, by rw [List.length_map]; exact hl, h⟩
/-! ### parts -/
def showable (d : D) : Prop := (∃ b, d = .bl b) ∨ (∃ i : Int, d = .int i ∧ i.natAbs.log2 < 1920) ∨ ∃ x, d = .str x
def FshowP : DCall := fun ds q => ∃ d, ds = [d] ∧ showable d ∧ q (.str (showP d))
theorem sc_show_part : FnScope ["part"] ["part"] (defScope s_show_part) := ⟨rfl, rfl, rfl, by decide +kernel, rfl, by decide +kernel, by decide +kernel⟩
theorem ok_show_part {R : Res} {f : Addr} {fd : FuncData} (F : Fun K "show_part" "show_part" s_show_part f fd) (T : Txt K mg) : FnG P w K mg base 1 f fd ["part"] (spD K R FshowP) := by
  refine FunD.ok F sc_show_part (fun ds q ⟨d, e, _⟩ => by rw [e]; rfl) (fun cdv A outer s H E ds q hr hgd h => ?_)
  obtain ⟨d, rfl, hd, h⟩ := h
  refine ⟨_, (ss_cons (s_if (t_cmp opd_eq (opr_eq hr.units0) (d_callTy cd_type call_type1 T.n_type (by decide +kernel) (a_cons (dv 0) a_nil)) (d_ty (n := "bool") T.n_bool (by decide +kernel))) (ss_one (s_ret (d_ifExp (t_val (dv 0)) d_str d_str))) ss_nil) (ss_one (s_ret (d_callTy cd_strA (CallR.or call_str_int SkE.call_str_str) T.n_str (by decide +kernel) (a_cons (dv 0) a_nil))))), ?_⟩
  rcases hd with ⟨b, rfl⟩ | ⟨i, rfl, hi⟩ | ⟨x, rfl⟩
  · refine ⟨.bl b, rfl, .bl b, rfl, rfl, _, eqD_ty (d := .bl b) rfl (by decide), _, rfl, ifT (decide_eq_true rfl) ⟨.bl b, rfl, b, rfl, ?_⟩⟩
    cases b
    · exact iteF h
    · exact iteT h
  · exact ⟨.int i, rfl, .int i, rfl, rfl, _, eqD_ty (d := .int i) rfl (by decide), _, rfl, ifF (decide_eq_false (show ¬ ("int" : String) = "bool" by decide)) ⟨.int i, rfl, .inl ⟨i, rfl, hi, h⟩⟩⟩
  · exact ⟨.str x, rfl, .str x, rfl, rfl, _, eqD_ty (d := .str x) rfl (by decide), _, rfl, ifF (decide_eq_false (show ¬ ("str" : String) = "bool" by decide)) ⟨.str x, rfl, .inr ⟨x, rfl, h⟩⟩⟩
def FshowPs : DCall := fun ds q => ∃ ps, ds = [.tup ps] ∧ ps.length ≤ 100 ∧ (∀ p ∈ ps, showable p ∧ (showP p).length ≤ 1000) ∧ q (.str (shownPs ps))
theorem sum_le {k : Nat} : ∀ {l : List Str}, (∀ x ∈ l, x.length ≤ k) → (l.map (·.length)).sum ≤ l.length * k
  | [], _ => Nat.zero_le _
  | x :: l, h => by
    have h1 := h x (by simp)
    have h2 := sum_le (l := l) fun y hy => h y (List.mem_cons_of_mem _ hy)
    rw [List.map_cons, List.sum_cons, List.length_cons, Nat.add_mul, Nat.one_mul]
    omega
theorem join_room {l : List Str} {y : Str} (hl : l.length ≤ 100) (h : ∀ x ∈ l, x.length ≤ 1000) (hy : y.length ≤ 10) : (l.map (·.length)).sum + l.length * y.length ≤ 16777216 := by
  have h1 := sum_le h
  have h2 : l.length * 1000 ≤ 100 * 1000 := Nat.mul_le_mul_right _ hl
  have h3 : l.length * y.length ≤ 100 * 10 := Nat.mul_le_mul hl hy
  omega
theorem sc_show_parts : FnScope ["parts", "part"] ["parts"] (defScope s_show_parts) := ⟨rfl, rfl, rfl, by decide +kernel, rfl, by decide +kernel, by decide +kernel⟩
theorem ok_show_parts {R : Res} {f : Addr} {fd : FuncData} (F : Fun K "show_parts" "show_parts" s_show_parts f fd) (T : Txt K mg) (D_show_part : DefP P w K mg base "show_part" 1 FshowP) : FnG P w K mg base 2 f fd ["parts"] (spD K R FshowPs) := by
  refine FunD.ok F sc_show_parts (fun ds q ⟨d, e, _⟩ => by rw [e]; rfl) (fun cdv A outer s H E ds q hr hgd h => ?_)
  obtain ⟨ps, rfl, hl, hp, h⟩ := h
  refine ⟨_, (ss_one (s_ret (d_join d_str (d_lc (i := 1) rfl sc_show_parts.nd (i_tup (dv 0)) (blkOk_by (own := [("part", 1)]) (N := ["parts", "part"]) (sc := defScope s_show_parts) (by decide +kernel)) (fun _ _ _ _ _ => pg_name (i := 1) sc_show_parts.nd rfl (Or.inl rfl)) (fun _ _ _ _ _ A => (d_call (D_show_part _) (hr.mono (by omega)) hgd (a_cons (dv 1) a_nil))))))), ?_⟩
  refine ⟨",", rfl, vLc_map ps (fun d => .str (showP d)) (fun Q h => ⟨.tup ps, rfl, ps, rfl, h⟩) (by omega) (fun d hd => ?_) ?_⟩
  · exact ⟨d, rfl, d, rfl, (hp d hd).1, rfl⟩
  refine ⟨ps.map showP, .inr (by rw [List.map_map]; rfl), join_room (by rw [List.length_map]; exact hl) (fun x hx => ?_) (by decide +kernel), h⟩
  obtain ⟨d, hd, rfl⟩ := List.mem_map.mp hx
  exact (hp d hd).2
theorem log_small {i : Int} (h : i.natAbs < 2 ^ 40) : i.natAbs.log2 < 1920 := by
  by_cases h0 : i.natAbs = 0
  · rw [h0]; decide
  · have := (Nat.log2_lt h0).mpr h
    omega
theorem body_showable {z : Str} {ps : List D} (h : BodyIs z ps) : ps.length ≤ 100 ∧ ∀ p ∈ ps, showable p ∧ (showP p).length ≤ 1000 := by
  cases h with
  | word h => 
    refine ⟨by simp, fun p hp => ?_⟩
    have := List.mem_singleton.mp hp
    subst this
    exact ⟨.inr (.inr ⟨_, rfl⟩), Nat.le_trans (text_len h).1 (by decide)⟩
  | bye => exact ⟨by decide, fun p hp => by cases hp⟩
  | nums hz h0 h6 h _ =>
    refine ⟨by omega, fun p hp => ⟨?_, by have := (simple_len (h p hp)).1; omega⟩⟩
    rcases h p hp with ⟨i, rfl, a, b⟩ | ⟨b, rfl⟩
    · exact .inr (.inl ⟨i, rfl, log_small (by omega)⟩)
    · exact .inl ⟨b, rfl⟩
/-! ### numbers, read -/
def FtextB (g : Str → D) : DCall := fun ds q => ∃ x, ds = [.str x] ∧ x.length ≤ 1000000 ∧ q (g x)
theorem all_fig {i : Nat} {te : TDE} {ρ : DE} {q : D → Prop} {x : Str} : True := trivial
theorem sc_is_number : FnScope ["text", "sign"] ["text"] (defScope s_is_number) := ⟨rfl, rfl, rfl, by decide +kernel, rfl, by decide +kernel, by decide +kernel⟩
theorem ok_is_number {R : Res} {f : Addr} {fd : FuncData} (F : Fun K "is_number" "is_number" s_is_number f fd) (T : Txt K mg) : FnG P w K mg base 1 f fd ["text"] (spD K R (FtextB fun x => .bl (isNumS x))) := by
  refine FunD.ok F sc_is_number (fun ds q ⟨d, e, _⟩ => by rw [e]; rfl) (fun cdv A outer s H E ds q hr hgd h => ?_)
  obtain ⟨x, rfl, hz, h⟩ := h
  refine ⟨_, (ss_cons (s_if (PW.pt (t_or (t_cmp opd_eq (opr_eq hr.units0) (dv 0) d_str) (t_or1 (t_not (t_val (d_callB cd_all (cr_all rfl) T.n_all (by decide +kernel) (a_cons (d_lc (i := 1) rfl sc_is_number.nd (i_str (dv 0)) (blkOk_by (own := [("sign", 1)]) (N := ["text", "sign"]) (sc := defScope s_is_number) (by decide +kernel)) (fun _ _ _ _ _ => pg_name (i := 1) sc_is_number.nd rfl (Or.inl rfl)) (fun _ _ _ _ _ A => (d_cmp opd_inS op_in_sign (dv 1) (d_gstrT T.c_FIGURES)))) a_nil))))))) (ss_one (s_ret d_bl)) ss_nil) (ss_one (s_ret (d_or (d_cmp opd_eq (opr_eq hr.units0) (dv 0) d_str) (d_one (d_cmp opd_ne opr_ne (d_ix (dv 0) d_int) d_str)))))), ?_⟩
  refine ⟨.str x, rfl, _, rfl, _, rfl, ?_⟩
  have h : q (.bl (isNumS x)) := h
  unfold isNumS at h
  refine ifB (fun h1 => ?_) (fun h1 => ?_)
  · refine iteT (qb h ?_)
    rw [h1]; rfl
  have hz' : x.length ≤ sizeLine := by rw [sizeLine_eq]; omega
  show vCall allC (vCons (vLc 1 (iStrD (vVar 0)) (vOp (inS false) (vVar 1) (vC (D.str (Str.ofString "0123456789"))))) vNil) _ _
  refine vAll_signs x (fun c => decide (c ∈ figs.cps.toList)) (fun Q h => ⟨.str x, rfl, x, rfl, h⟩) hz (fun c _ => ?_) ⟨_, rfl, ?_⟩
  · exact ⟨_, rfl, c, _, rfl, rfl, rfl⟩
  refine ifB (fun h2 => ?_) (fun h2 => ?_)
  · have h2' : (x.cps.toList.all fun c => decide (c ∈ figs.cps.toList)) = false := by simpa using h2
    exact qb h (by rw [h2', Bool.and_false, Bool.false_and])
  have h2' : (x.cps.toList.all fun c => decide (c ∈ figs.cps.toList)) = true := by simpa using h2
  rw [h1, h2'] at h
  refine ⟨.str x, rfl, _, rfl, _, rfl, ?_⟩
  refine ifB (fun h3 => ?_) (fun h3 => ?_)
  · exact qb h (by rw [h3]; rfl)
  cases hx : x.cps.toList with
  | nil =>
    have : x = "" := ext_tl (by rw [show tl x = [] from hx]; decide +kernel)
    rw [this] at h1
    exact absurd h1 (by decide +kernel)
  | cons c r =>
    rw [hx] at h
    refine ⟨.str x, rfl, 0, rfl, .inr ⟨x, c, rfl, hz', by rw [hx]; exact atI_nat (j := 0) rfl, _, rfl, qb h ?_⟩⟩
    rw [h3]; rfl
theorem sc_read_part : FnScope ["text"] ["text"] (defScope s_read_part) := ⟨rfl, rfl, rfl, by decide +kernel, rfl, by decide +kernel, by decide +kernel⟩
theorem ok_read_part {R : Res} {f : Addr} {fd : FuncData} (F : Fun K "read_part" "read_part" s_read_part f fd) (T : Txt K mg) (D_is_number : DefP P w K mg base "is_number" 1 (FtextB fun x => .bl (isNumS x))) : FnG P w K mg base 2 f fd ["text"] (spD K R (FtextB readP)) := by
  refine FunD.ok F sc_read_part (fun ds q ⟨d, e, _⟩ => by rw [e]; rfl) (fun cdv A outer s H E ds q hr hgd h => ?_)
  obtain ⟨x, rfl, hz, h⟩ := h
  refine ⟨_, (ss_cons (s_if (t_cmp opd_eq (opr_eq hr.units0) (dv 0) d_str) (ss_one (s_ret d_bl)) ss_nil) (ss_cons (s_if (t_cmp opd_eq (opr_eq hr.units0) (dv 0) d_str) (ss_one (s_ret d_bl)) ss_nil) (ss_cons (s_if (PW.pt (t_and (t_val (d_call (D_is_number _) (hr.mono (by omega)) hgd (a_cons (dv 0) a_nil))) (t_and1 (t_cmp opd_cmpI op_le (d_callB cd_len call_len T.n_len (by decide +kernel) (a_cons (dv 0) a_nil)) (d_gintT T.c_MOST_FIGURES))))) (ss_one (s_ret (d_callTy cd_intS call_int_str T.n_int (by decide +kernel) (a_cons (dv 0) a_nil)))) ss_nil) (ss_one (s_ret d_non))))), ?_⟩
  have hz' : x.length ≤ sizeLine := by rw [sizeLine_eq]; omega
  unfold readP at h
  refine ⟨.str x, rfl, _, rfl, _, rfl, ?_⟩
  by_cases h1 : x = "yes"
  · rw [if_pos h1] at h
    exact ifT (beq_iff_eq.mpr h1) h
  rw [if_neg h1] at h
  refine ifF (beq_eq_false_iff_ne.mpr h1) ⟨.str x, rfl, _, rfl, _, rfl, ?_⟩
  by_cases h2 : x = "no"
  · rw [if_pos h2] at h
    exact ifT (beq_iff_eq.mpr h2) h
  rw [if_neg h2] at h
  refine ifF (beq_eq_false_iff_ne.mpr h2) ⟨.str x, rfl, x, rfl, hz, _, rfl, ?_⟩
  by_cases h3 : isNumS x = true
  · refine ifT h3 ⟨.str x, rfl, .str x, rfl, .inr ⟨x, rfl, hz', _, _, rfl, rfl, trivial, _, rfl, ?_⟩⟩
    by_cases h4 : x.length ≤ 5
    · rw [if_pos ⟨h3, h4⟩] at h
      obtain ⟨n, hn⟩ := isNum_int h3 h4
      rw [hn] at h
      exact ifT (decide_eq_true (by omega)) ⟨.str x, rfl, x, n, rfl, hn, by omega, h⟩
    · rw [if_neg (fun e => h4 e.2)] at h
      exact ifF (decide_eq_false (by omega)) h
  · rw [if_neg (fun e => h3 e.1)] at h
    exact ifF (Bool.eq_false_iff.mpr h3) (iteF h)
/-! ### the sum -/
theorem find_one (c : Nat) : -1 ≤ Txt.find SIGNS ⟨#[c]⟩ ∧ Txt.find SIGNS ⟨#[c]⟩ ≤ 100 := by
  rcases find_spec SIGNS ⟨#[c]⟩ with e | ⟨i, e, h, _⟩
  · rw [e]; decide
  · rw [e]
    have : SIGNS.length = 40 := by decide +kernel
    omega
theorem sum_step {z : Str} {m c : Nat} {a : Int} (hc : z.cps.toList[m]? = some c) : sumL m a (z.cps.toList.drop m) = sumL (m + 1) (a + (Txt.find SIGNS ⟨#[c]⟩ + 1) * (1 + (m : Int))) (z.cps.toList.drop (m + 1)) := by
  obtain ⟨hl, e⟩ := List.getElem?_eq_some_iff.mp hc
  rw [List.drop_eq_getElem_cons hl, e]
  rfl
theorem sc_sum_of : FnScope ["text", "total", "at", "sign"] ["text"] (defScope s_sum_of) := ⟨rfl, rfl, rfl, by decide +kernel, rfl, by decide +kernel, by decide +kernel⟩
theorem ok_sum_of {R : Res} {f : Addr} {fd : FuncData} (F : Fun K "_sum_of" "_sum_of" s_sum_of f fd) (T : Txt K mg) : FnG P w K mg base 1 f fd ["text"] (spD K R (FtextB fun x => .int (sumS x))) := by
  refine FunD.ok F sc_sum_of (fun ds q ⟨d, e, _⟩ => by rw [e]; rfl) (fun cdv A outer s H E ds q hr hgd h => ?_)
  obtain ⟨x, rfl, hz, h⟩ := h
  refine ⟨_, (ss_cons (s_set (i := 1) sc_sum_of.nd d_int) (ss_cons (s_forE (i := 2) (j := 3) PassesOwn.never rfl (pi_enumK (k0 := 1) T.n_enumerate (dv 0)) (pgs_cons (pg_name (i := 2) sc_sum_of.nd rfl (Or.inl rfl)) (pgs_cons (pg_name (i := 3) sc_sum_of.nd rfl (Or.inl rfl)) pgs_nil)) (ss_one (s_aug (i := 1) sc_sum_of.nd (d_op opd_int op_mul (d_op opd_add opr_add (d_mtS PySem.F.slot_str_find PySem.F.type_str_find mt_find op_find (d_gstrT T.c_SIGNS) (dv 3)) d_int) (dv 2))))) (ss_one (s_ret (d_op opd_int op_mod (dv 1) (d_gintT T.c_SUM_BELOW)))))), ?_⟩
  refine ⟨.str x, rfl, x, rfl, fun m ρ => ∃ (a : Int) (r0 r2 r3 : Option D), ρ = [r0, some (.int a), r2, r3] ∧ m ≤ x.cps.toList.length ∧ sumL m a (x.cps.toList.drop m) = sumL 0 0 x.cps.toList, ?_, ?_, ?_⟩
  · exact ⟨0, _, _, _, rfl, Nat.zero_le _, rfl⟩
  · rintro m c ρ hc ⟨a, r0, r2, r3, rfl, hm, ha⟩
    have hf := find_one c
    refine ⟨a, rfl, SIGNS, rfl, .str ⟨#[c]⟩, rfl, ⟨#[c]⟩, rfl, .int (1 + (m : Int)), rfl, _, _, rfl, rfl, .inl ⟨by omega, by omega⟩, _, rfl, ?_⟩
    refine ⟨_, _, _, _, rfl, ?_, ?_⟩
    · have := (List.getElem?_eq_some_iff.mp hc).1
      omega
    · rw [← ha]
      exact (sum_step hc).symm
  · rintro ρ ⟨a, r0, r2, r3, rfl, hm, ha⟩
    rw [List.drop_length] at ha
    have e : sumS x = a % 997 := by
      unfold sumS
      rw [← ha]; rfl
    have h' : q (.int (sumS x)) := h
    rw [e] at h'
    exact ⟨.int a, rfl, _, _, rfl, rfl, (show (0 : Int) < 997 by decide), h'⟩
/-! ### letters, shown -/
def FletterP (g : D → D) : DCall := fun ds q => ∃ d, ds = [d] ∧ okD d ∧ isLetter d = true ∧ q (g d)
theorem sc_need_letter : FnScope ["thing"] ["thing"] (defScope s_need_letter) := ⟨rfl, rfl, rfl, by decide +kernel, rfl, by decide +kernel, by decide +kernel⟩
theorem ok_need_letter {R : Res} {f : Addr} {fd : FuncData} (F : Fun K "need_letter" "need_letter" s_need_letter f fd) (T : Txt K mg) (D_is_letter : DefP P w K mg base "is_letter" 4 (F1 isLetter)) : FnG P w K mg base 5 f fd ["thing"] (spD K R (FletterP fun _ => .non)) := by
  refine FunD.ok F sc_need_letter (fun ds q ⟨d, e, _⟩ => by rw [e]; rfl) (fun cdv A outer s H E ds q hr hgd h => ?_)
  obtain ⟨d, rfl, hd, hl, h⟩ := h
  refine ⟨_, (ss_one (s_if (t_not (t_val (d_call (D_is_letter _) (hr.mono (by omega)) hgd (a_cons (dv 0) a_nil)))) (ss_one s_never) ss_nil)), ?_⟩
  exact ⟨d, rfl, d, rfl, hd, _, rfl, ifF (by rw [hl]; rfl) h⟩
theorem zz {n : Nat} (h : n ≤ 1000) : n ≤ sizeLine := by rw [sizeLine_eq]; omega
theorem sc_show_ahead : FnScope ["letter", "sender", "number", "again", "body", "behind"] ["letter"] (defScope s_show_ahead) := ⟨rfl, rfl, rfl, by decide +kernel, rfl, by decide +kernel, by decide +kernel⟩
theorem ok_show_ahead {R : Res} {f : Addr} {fd : FuncData} (F : Fun K "_show_ahead" "_show_ahead" s_show_ahead f fd) (T : Txt K mg) (D_show_part : DefP P w K mg base "show_part" 1 FshowP) (D_show_parts : DefP P w K mg base "show_parts" 2 FshowPs) : FnG P w K mg base 3 f fd ["letter"] (spD K R (FletterP fun d => .str (aheadD d))) := by
  refine FunD.ok F sc_show_ahead (fun ds q ⟨d, e, _⟩ => by rw [e]; rfl) (fun cdv A outer s H E ds q hr hgd h => ?_)
  obtain ⟨d, rfl, hd, hl, h⟩ := h
  refine ⟨_, (ss_cons (s_unp (is := [1, 2, 3, 4]) rfl (pgs_cons (pg_name (i := 1) sc_show_ahead.nd rfl (Or.inl rfl)) (pgs_cons (pg_name (i := 2) sc_show_ahead.nd rfl (Or.inl rfl)) (pgs_cons (pg_name (i := 3) sc_show_ahead.nd rfl (Or.inl rfl)) (pgs_cons (pg_name (i := 4) sc_show_ahead.nd rfl (Or.inl rfl)) pgs_nil)))) (dv 0)) (ss_cons (s_set (i := 5) sc_show_ahead.nd (d_call (D_show_parts _) (hr.mono (by omega)) hgd (a_cons (d_slice (dv 4) (o_some d_int) o_none) a_nil))) (ss_one (s_ret (d_joined (.cons d_str (.cons (d_fmt (dv 1)) (.cons d_str (.cons (d_fmt (dv 2)) (.cons d_str (.cons (d_fmt (d_call (D_show_part _) (hr.mono (by omega)) hgd (a_cons (dv 3) a_nil))) (.cons d_str (.cons (d_fmt (d_ix (dv 4) d_int)) (.cons d_str (.cons (d_fmt (dv 5)) .nil))))))))))))))), ?_⟩
  obtain ⟨s, n, b, z, ps, rfl, L⟩ := letter_is hl
  have hb := body_showable L.body
  have hn : n.natAbs.log2 < 1920 := log_small (by have := L.n0; have := L.n1; omega)
  have hal := ahead_len L
  have h1 := (side_free L.s).1
  have h2 := num_len L.n0 (i := n) (by have := L.n1; omega)
  have h3 : (yn b).length ≤ 3 := by cases b <;> decide +kernel
  have h4 := (word_sign L.body).1
  have h5 := shown_len L.body
  have l1 : ("from=" : Str).length = 5 := by decide +kernel
  have l2 : ("|number=" : Str).length = 8 := by decide +kernel
  have l3 : ("|again=" : Str).length = 7 := by decide +kernel
  have l4 : ("|" : Str).length = 1 := by decide +kernel
  have l5 : ("=" : Str).length = 1 := by decide +kernel
  have l0 : Str.empty.length = 0 := rfl
  refine ⟨_, rfl, _, rfl, rfl, .tup (.str z :: ps), rfl, 1, rfl, ps, ?_, hb.1, hb.2, ?_⟩
  · show [D.tup (Dl.cutD (.str z :: ps) (some 1) none)] = [D.tup ps]
    have e1 : Dl.cutD (D.str z :: ps) (some 1) none = ps := cutD_from (D.str z :: ps) 1
    rw [e1]
  have st : ∀ {x : Str}, x.length ≤ 1000 → x.length ≤ sizeLine := fun h => zz h
  refine ⟨"from=", rfl, st (by simp only [len_append, l0, l1]; omega), .str s, rfl, .inl ⟨s, rfl, st (by omega), s, rfl, st (by simp only [len_append, l0, l1]; omega), ?_⟩⟩
  refine ⟨"|number=", rfl, st (by simp only [len_append, l0, l1, l2]; omega), .int n, rfl, .inr ⟨n, rfl, hn, num n, rfl, st (by simp only [len_append, l0, l1, l2]; omega), ?_⟩⟩
  refine ⟨"|again=", rfl, st (by simp only [len_append, l0, l1, l2, l3]; omega), .bl b, rfl, .bl b, rfl, .inl ⟨b, rfl⟩, .inl ⟨yn b, rfl, st (by omega), yn b, rfl, st (by simp only [len_append, l0, l1, l2, l3]; omega), ?_⟩⟩
  refine ⟨"|", rfl, st (by simp only [len_append, l0, l1, l2, l3, l4]; omega), .tup (.str z :: ps), rfl, 0, rfl, .inl ⟨_, .str z, rfl, atI_nat (j := 0) rfl, .inl ⟨z, rfl, st (by omega), z, rfl, st (by simp only [len_append, l0, l1, l2, l3, l4]; omega), ?_⟩⟩⟩
  refine ⟨"=", rfl, st (by simp only [len_append, l0, l1, l2, l3, l4, l5]; omega), .str (shownPs ps), rfl, .inl ⟨shownPs ps, rfl, st (by omega), shownPs ps, rfl, st (by simp only [len_append, l0, l1, l2, l3, l4, l5]; omega), ?_⟩⟩
  exact h
theorem aheadD_len {d : D} (h : isLetter d = true) : (aheadD d).length ≤ 90 := by
  obtain ⟨s, n, b, z, ps, rfl, L⟩ := letter_is h
  exact ahead_len L
theorem front_len {a : Str} (h : a.length ≤ 90) : (frontS a).length ≤ 110 := by
  unfold frontS
  have h2 := num_len (i := (a.length : Int)) (by omega) (by omega)
  have l4 : ("|" : Str).length = 1 := by decide +kernel
  have l5 : ("length=" : Str).length = 7 := by decide +kernel
  have l0 : Str.empty.length = 0 := rfl
  simp only [len_append, l0, l4, l5]
  omega
theorem sc_show_letter : FnScope ["letter", "ahead", "text"] ["letter"] (defScope s_show_letter) := ⟨rfl, rfl, rfl, by decide +kernel, rfl, by decide +kernel, by decide +kernel⟩
theorem ok_show_letter {R : Res} {f : Addr} {fd : FuncData} (F : Fun K "show_letter" "show_letter" s_show_letter f fd) (T : Txt K mg) (D_need_letter : DefP P w K mg base "need_letter" 5 (FletterP fun _ => .non)) (D_show_ahead : DefP P w K mg base "_show_ahead" 3 (FletterP fun d => .str (aheadD d))) (D_sum_of : DefP P w K mg base "_sum_of" 1 (FtextB fun x => .int (sumS x))) : FnG P w K mg base 6 f fd ["letter"] (spD K R (FletterP fun d => .str (closeS (aheadD d)))) := by
  refine FunD.ok F sc_show_letter (fun ds q ⟨d, e, _⟩ => by rw [e]; rfl) (fun cdv A outer s H E ds q hr hgd h => ?_)
  obtain ⟨d, rfl, hd, hl, h⟩ := h
  refine ⟨_, (ss_cons (s_expr (d_call (D_need_letter _) (hr.mono (by omega)) hgd (a_cons (dv 0) a_nil))) (ss_cons (s_set (i := 1) sc_show_letter.nd (d_call (D_show_ahead _) (hr.mono (by omega)) hgd (a_cons (dv 0) a_nil))) (ss_cons (s_set (i := 2) sc_show_letter.nd (d_joined (.cons (d_fmt (dv 1)) (.cons d_str (.cons (d_fmt (d_gstrT T.c_LENGTH)) (.cons (d_fmt (d_callB cd_len call_len T.n_len (by decide +kernel) (a_cons (dv 1) a_nil))) .nil)))))) (ss_one (s_ret (d_joined (.cons (d_fmt (dv 2)) (.cons d_str (.cons (d_fmt (d_gstrT T.c_SUM)) (.cons (d_fmt (d_call (D_sum_of _) (hr.mono (by omega)) hgd (a_cons (dv 2) a_nil))) .nil)))))))))), ?_⟩
  have ha := aheadD_len hl
  have hf := front_len ha
  have h2 := num_len (i := ((aheadD d).length : Int)) (by omega) (by omega)
  have hs := sum_mod (frontS (aheadD d))
  have h3 := num_len hs.1 (by omega)
  have l4 : ("|" : Str).length = 1 := by decide +kernel
  have l5 : ("length=" : Str).length = 7 := by decide +kernel
  have l6 : ("sum=" : Str).length = 4 := by decide +kernel
  have l0 : Str.empty.length = 0 := rfl
  have st : ∀ {x : Str}, x.length ≤ 1000 → x.length ≤ sizeLine := fun h => zz h
  refine ⟨d, rfl, d, rfl, hd, hl, d, rfl, d, rfl, hd, hl, ?_⟩
  refine ⟨.str (aheadD d), rfl, .inl ⟨aheadD d, rfl, st (by omega), aheadD d, rfl, st (by simp only [len_append, l0]; omega), "|", rfl, st (by simp only [len_append, l0, l4]; omega), .inl ⟨"length=", rfl, st (by omega), "length=", rfl, st (by simp only [len_append, l0, l4, l5]; omega), ?_⟩⟩⟩
  refine ⟨.str (aheadD d), rfl, _, rfl, .inr ⟨aheadD d, rfl, st (by omega), .inr ⟨_, rfl, log_small (by omega), num (aheadD d).length, rfl, st (by simp only [len_append, l0, l4, l5]; omega), ?_⟩⟩⟩
  refine ⟨.str (frontS (aheadD d)), rfl, .inl ⟨frontS (aheadD d), rfl, st (by omega), frontS (aheadD d), rfl, st (by simp only [len_append, l0]; omega), "|", rfl, st (by simp only [len_append, l0, l4]; omega), .inl ⟨"sum=", rfl, st (by omega), "sum=", rfl, st (by simp only [len_append, l0, l4, l6]; omega), ?_⟩⟩⟩
  exact ⟨.str (frontS (aheadD d)), rfl, _, rfl, by omega, .inr ⟨_, rfl, log_small (by omega), num (sumS (frontS (aheadD d))), rfl, st (by simp only [len_append, l0, l4, l6]; omega), h⟩⟩
/-! ### letters, read -/
theorem cutS_len (x : Str) (lo hi : Option Int) : (cutS x lo hi).length ≤ x.length := by
  rw [len_tl, len_tl x]
  unfold cutS
  show (((tl x).drop _).take _).length ≤ _
  rw [List.length_take, List.length_drop]
  omega
def FnumD : DCall := fun ds q => ∃ x y, ds = [.str x, .str y] ∧ x.length ≤ 1000000 ∧ y.length ≤ 1000000 ∧ q (.bl (Txt.startswith x y && isNumS (cutS x (some (y.length : Int)) none)))
theorem sc_is_numbered : FnScope ["part", "name"] ["part", "name"] (defScope s_is_numbered) := ⟨rfl, rfl, rfl, by decide +kernel, rfl, by decide +kernel, by decide +kernel⟩
theorem ok_is_numbered {R : Res} {f : Addr} {fd : FuncData} (F : Fun K "_is_numbered" "_is_numbered" s_is_numbered f fd) (T : Txt K mg) (D_is_number : DefP P w K mg base "is_number" 1 (FtextB fun x => .bl (isNumS x))) : FnG P w K mg base 2 f fd ["part", "name"] (spD K R FnumD) := by
  refine FunD.ok F sc_is_numbered (fun ds q ⟨_, _, e, _⟩ => by rw [e]; rfl) (fun cdv A outer s H E ds q hr hgd h => ?_)
  obtain ⟨x, y, rfl, hx, hy, h⟩ := h
  refine ⟨_, (ss_one (s_ret (d_and (d_mtS PySem.F.slot_str_startswith PySem.F.type_str_startswith mt_startswith op_start (dv 0) (dv 1)) (d_one (d_call (D_is_number _) (hr.mono (by omega)) hgd (a_cons (d_slice (dv 0) (o_some (d_callB cd_len call_len T.n_len (by decide +kernel) (a_cons (dv 1) a_nil))) o_none) a_nil)))))), ?_⟩
  have hx' : x.length ≤ sizeLine := by rw [sizeLine_eq]; omega
  have hy' : y.length ≤ sizeLine := by rw [sizeLine_eq]; omega
  refine ⟨.str x, rfl, x, rfl, .str y, rfl, y, rfl, _, rfl, ?_⟩
  refine ifB (fun h1 => ?_) (fun h1 => qb h (by rw [h1]; rfl))
  have hc := cutS_len x (some (y.length : Int)) none
  refine ⟨.str x, rfl, .str y, rfl, .str y, rfl, .inr ⟨y, rfl, hy', _, rfl, hx', _, rfl, by omega, qb h (by rw [h1]; rfl)⟩⟩
theorem mem_joinL {S p : List Nat} : ∀ {l : List (List Nat)}, p ∈ l → p.length ≤ (joinL S l).length
  | [], h => by cases h
  | [q], h => by rw [List.mem_singleton.mp h]; exact Nat.le_refl _
  | q :: q2 :: r, h => by
    show _ ≤ (q ++ (S ++ joinL S (q2 :: r))).length
    rw [List.length_append, List.length_append]
    rcases List.mem_cons.mp h with rfl | h
    · omega
    · have := mem_joinL (S := S) h
      omega
theorem split_short {x y p : Str} (h : p ∈ Txt.split x y) : p.length ≤ x.length := by
  have e := PySem.StrLaws.join_split x y
  have := mem_joinL (S := tl y) (List.mem_map_of_mem (f := tl) h)
  rw [← tl_join, e, ← len_tl, ← len_tl] at this
  exact this
theorem part_len (x y : Str) : (Txt.partition x y).1.length ≤ x.length ∧ (Txt.partition x y).2.2.length ≤ x.length := by
  rcases PyProof.Rows.partition_whole x y with ⟨e, _⟩ | ⟨i, e, hi, _⟩
  · rw [e]; exact ⟨Nat.le_refl _, Nat.zero_le _⟩
  · rw [e]
    exact ⟨PySem.strSub_length_le .., PySem.strSub_length_le ..⟩
theorem sc_read_body : FnScope ["part", "word", "_", "behind", "text"] ["part"] (defScope s_read_body) := ⟨rfl, rfl, rfl, by decide +kernel, rfl, by decide +kernel, by decide +kernel⟩
theorem ok_read_body {R : Res} {f : Addr} {fd : FuncData} (F : Fun K "_read_body" "_read_body" s_read_body f fd) (T : Txt K mg) (D_read_part : DefP P w K mg base "read_part" 2 (FtextB readP)) : FnG P w K mg base 3 f fd ["part"] (spD K R (fun ds q => ∃ x, ds = [.str x] ∧ x.length ≤ 100000 ∧ q (readB x))) := by
  refine FunD.ok F sc_read_body (fun ds q ⟨_, e, _⟩ => by rw [e]; rfl) (fun cdv A outer s H E ds q hr hgd h => ?_)
  obtain ⟨x, rfl, hx, h⟩ := h
  refine ⟨_, (ss_cons (s_unp (is := [1, 2, 3]) rfl (pgs_cons (pg_name (i := 1) sc_read_body.nd rfl (Or.inl rfl)) (pgs_cons (pg_name (i := 2) sc_read_body.nd rfl (Or.inl rfl)) (pgs_cons (pg_name (i := 3) sc_read_body.nd rfl (Or.inl rfl)) pgs_nil))) (d_mtS PySem.F.slot_str_partition PySem.F.type_str_partition mt_partition op_part (dv 0) d_str)) (ss_cons (s_if (t_cmp opd_eq (opr_eq hr.units0) (dv 1) d_str) (ss_one (s_ret (d_tup (a_cons (dv 1) (a_cons (dv 3) a_nil))))) ss_nil) (ss_cons (s_if (t_cmp opd_eq (opr_eq hr.units0) (dv 3) d_str) (ss_one (s_ret (d_tup (a_cons (dv 1) a_nil)))) ss_nil) (ss_one (s_ret (d_op opd_add opr_add (d_tup (a_cons (dv 1) a_nil)) (d_callTy cd_tuple call_tuple_of T.n_tuple (by decide +kernel) (a_cons (d_lc (i := 4) rfl sc_read_body.nd (i_lst (d_mtS PySem.F.slot_str_split PySem.F.type_str_split mt_split op_split (dv 3) d_str)) (blkOk_by (own := [("text", 4)]) (N := ["part", "word", "_", "behind", "text"]) (sc := defScope s_read_body) (by decide +kernel)) (fun _ _ _ _ _ => pg_name (i := 4) sc_read_body.nd rfl (Or.inl rfl)) (fun _ _ _ _ _ A => (d_call (D_read_part _) (hr.mono (by omega)) hgd (a_cons (dv 4) a_nil)))) a_nil)))))))), ?_⟩
  have hx' : x.length ≤ sizeLine := by rw [sizeLine_eq]; omega
  have hp := part_len x "="
  unfold readB at h
  refine ⟨.str x, rfl, x, rfl, "=", rfl, by decide +kernel, hx', _, rfl, rfl, ?_⟩
  refine ⟨.str (Txt.partition x "=").1, rfl, _, rfl, _, rfl, ?_⟩
  by_cases h1 : (Txt.partition x "=").1 = "word"
  · rw [if_pos h1] at h
    exact ifT (beq_iff_eq.mpr h1) ⟨.str (Txt.partition x "=").1, rfl, .str (Txt.partition x "=").2.2, rfl, zz (by decide : 2 ≤ 1000), h⟩
  rw [if_neg h1] at h
  refine ifF (beq_eq_false_iff_ne.mpr h1) ⟨.str (Txt.partition x "=").2.2, rfl, _, rfl, _, rfl, ?_⟩
  by_cases h2 : (Txt.partition x "=").2.2 = ""
  · rw [if_pos h2] at h
    exact ifT (beq_iff_eq.mpr h2) ⟨.str (Txt.partition x "=").1, rfl, zz (by decide : 1 ≤ 1000), h⟩
  rw [if_neg h2] at h
  have hc := PyProof.Rows.split_le (Txt.partition x "=").2.2 ","
  have hcl : ((Txt.split (Txt.partition x "=").2.2 ",").map D.str).length ≤ 200000 := by rw [List.length_map]; omega
  refine ifF (beq_eq_false_iff_ne.mpr h2) ⟨.str (Txt.partition x "=").1, rfl, zz (by decide : 1 ≤ 1000), ?_⟩
  refine vTupC_map ((Txt.split (Txt.partition x "=").2.2 ",").map D.str) (fun d => match d with | .str y => readP y | _ => .non) (fun Q h => ⟨.str (Txt.partition x "=").2.2, rfl, (Txt.partition x "=").2.2, rfl, ",", rfl, by decide +kernel, by rw [sizeLine_eq]; omega, _, .inr rfl, h⟩) (by omega) (fun d hd => ?_) ?_
  · obtain ⟨y, hy, rfl⟩ := List.mem_map.mp hd
    have := split_short hy
    exact ⟨.str y, rfl, y, rfl, by omega, rfl⟩
  · refine ⟨?_, ?_⟩
    · rw [List.length_map, sizeLine_eq]
      show 1 + _ ≤ _
      omega
    · rw [List.map_map]
      exact h
theorem sc_read_ahead : FnScope ["ahead", "parts", "sender", "number", "again", "letter", "part"] ["ahead"] (defScope s_read_ahead) := ⟨rfl, rfl, rfl, by decide +kernel, rfl, by decide +kernel, by decide +kernel⟩
theorem ok_read_ahead {R : Res} {f : Addr} {fd : FuncData} (F : Fun K "_read_ahead" "_read_ahead" s_read_ahead f fd) (T : Txt K mg) (D_read_part : DefP P w K mg base "read_part" 2 (FtextB readP)) (D_read_body : DefP P w K mg base "_read_body" 3 (fun ds q => ∃ x, ds = [.str x] ∧ x.length ≤ 100000 ∧ q (readB x))) (D_is_letter : DefP P w K mg base "is_letter" 4 (F1 isLetter)) (D_show_ahead : DefP P w K mg base "_show_ahead" 3 (FletterP fun d => .str (aheadD d))) : FnG P w K mg base 5 f fd ["ahead"] (spD K R (fun ds q => ∃ d, ds = [.str (aheadD d)] ∧ okD d ∧ isLetter d = true ∧ q d)) := by
  refine FunD.ok F sc_read_ahead (fun ds q ⟨_, e, _⟩ => by rw [e]; rfl) (fun cdv A outer s H E ds q hr hgd h => ?_)
  obtain ⟨d, rfl, hd, hl, h⟩ := h
  refine ⟨_, (ss_cons (s_set (i := 1) sc_read_ahead.nd (d_mtS PySem.F.slot_str_split PySem.F.type_str_split mt_split op_split (dv 0) d_str)) (ss_cons (s_if (t_cmp opd_ne opr_ne (d_callB cd_len call_len T.n_len (by decide +kernel) (a_cons (dv 1) a_nil)) d_int) (ss_one s_never) ss_nil) (ss_cons (s_unpL (is := [2, 3, 4]) rfl (pgs_cons (pg_name (i := 2) sc_read_ahead.nd rfl (Or.inl rfl)) (pgs_cons (pg_name (i := 3) sc_read_ahead.nd rfl (Or.inl rfl)) (pgs_cons (pg_name (i := 4) sc_read_ahead.nd rfl (Or.inl rfl)) pgs_nil))) (d_lc (i := 6) rfl sc_read_ahead.nd (i_lst (d_sliceL (dv 1) o_none (o_some d_int))) (blkOk_by (own := [("part", 6)]) (N := ["ahead", "parts", "sender", "number", "again", "letter", "part"]) (sc := defScope s_read_ahead) (by decide +kernel)) (fun _ _ _ _ _ => pg_name (i := 6) sc_read_ahead.nd rfl (Or.inl rfl)) (fun _ _ _ _ _ A => (d_ix (d_mtS PySem.F.slot_str_partition PySem.F.type_str_partition mt_partition op_part (dv 6) d_str) d_int)))) (ss_cons (s_set (i := 5) sc_read_ahead.nd (d_tup (a_cons (dv 2) (a_cons (d_call (D_read_part _) (hr.mono (by omega)) hgd (a_cons (dv 3) a_nil)) (a_cons (d_call (D_read_part _) (hr.mono (by omega)) hgd (a_cons (dv 4) a_nil)) (a_cons (d_call (D_read_body _) (hr.mono (by omega)) hgd (a_cons (d_ix (dv 1) d_int) a_nil)) a_nil)))))) (ss_cons (s_if (PW.pt (t_or (t_not (t_val (d_call (D_is_letter _) (hr.mono (by omega)) hgd (a_cons (dv 5) a_nil)))) (t_or1 (t_cmp opd_ne opr_ne (d_call (D_show_ahead _) (hr.mono (by omega)) hgd (a_cons (dv 5) a_nil)) (dv 0))))) (ss_one s_never) ss_nil) (ss_one (s_ret (dv 5)))))))), ?_⟩
  have hal := aheadD_len hl
  obtain ⟨s, n, b, z, ps, rfl, L⟩ := letter_is hl
  have hs := ahead_split L
  have h1 := (side_free L.s).1
  have h2 := num_len L.n0 (i := n) (by have := L.n1; omega)
  have h3 : (yn b).length ≤ 3 := by cases b <;> decide +kernel
  have h4 := (word_sign L.body).1
  have h5 := shown_len L.body
  have l1 : ("from=" : Str).length = 5 := by decide +kernel
  have l2 : ("number=" : Str).length = 7 := by decide +kernel
  have l3 : ("again=" : Str).length = 6 := by decide +kernel
  have l5 : ("=" : Str).length = 1 := by decide +kernel
  have st : ∀ {x : Str}, x.length ≤ 1000 → x.length ≤ sizeLine := fun h => zz h
  refine ⟨.str (aheadS s n b z (shownPs ps)), rfl, aheadS s n b z (shownPs ps), rfl, "|", rfl, by decide +kernel, by have : (aheadS s n b z (shownPs ps)).length ≤ 90 := hal; rw [sizeLine_eq]; omega, ?_⟩
  have he : (Txt.split (aheadS s n b z (shownPs ps)) "|").map D.str = [.str ("from=" ++ s), .str ("number=" ++ num n), .str ("again=" ++ yn b), .str (z ++ "=" ++ shownPs ps)] := by rw [hs]; rfl
  rw [he]
  refine ⟨_, rfl, _, rfl, .inl ⟨_, rfl, _, rfl, _, rfl, iteF ?_⟩⟩
  dsimp only [sNil, sSeq]
  have hp3 : ∀ d ∈ [D.str ("from=" ++ s), .str ("number=" ++ num n), .str ("again=" ++ yn b)], ∃ y, d = .str y ∧ y.length ≤ 1000 := by
    intro d hd
    simp only [List.mem_cons, List.not_mem_nil, or_false] at hd
    rcases hd with rfl | rfl | rfl
    · exact ⟨_, rfl, by rw [len_append, l1]; omega⟩
    · exact ⟨_, rfl, by rw [len_append, l2]; omega⟩
    · exact ⟨_, rfl, by rw [len_append, l3]; omega⟩
  refine sUnpL_map [D.str ("from=" ++ s), .str ("number=" ++ num n), .str ("again=" ++ yn b)] (fun d => match d with | .str y => .str (Txt.partition y "=").2.2 | _ => .non) (fun Q h => ⟨_, rfl, 3, rfl, _, .inr rfl, _, .inr rfl, h⟩) (by simp) (fun d hd => ?_) rfl ?_
  · obtain ⟨y, rfl, hy⟩ := hp3 d hd
    exact ⟨.str y, rfl, y, rfl, "=", rfl, by decide +kernel, zz hy, 2, rfl, .inl ⟨_, _, rfl, rfl, rfl⟩⟩
  have hps : ([D.str ("from=" ++ s), .str ("number=" ++ num n), .str ("again=" ++ yn b)].map fun d => match d with | .str y => D.str (Txt.partition y "=").2.2 | _ => .non) = [.str s, .str (num n), .str (yn b)] := by
    show [D.str (Txt.partition ("from=" ++ s) "=").2.2, D.str (Txt.partition ("number=" ++ num n) "=").2.2, D.str (Txt.partition ("again=" ++ yn b) "=").2.2] = _
    rw [part_from, part_number, part_again]
  rw [hps]
  refine ⟨.str s, rfl, .str (num n), rfl, num n, rfl, by omega, .str (yn b), rfl, yn b, rfl, by omega, _, rfl, 3, rfl, .inl ⟨_, .str (z ++ "=" ++ shownPs ps), rfl, rfl, z ++ "=" ++ shownPs ps, rfl, by simp only [len_append, l5]; omega, zz (by decide : 4 ≤ 1000), ?_⟩⟩
  have hb : readB (z ++ "=" ++ shownPs ps) = .tup (.str z :: ps) := read_body L.body
  rw [hb, read_num L.n0 (by have := L.n1; omega), read_yn]
  refine ⟨_, rfl, _, rfl, hd, _, rfl, ?_⟩
  rw [hl]
  refine iteF ⟨_, rfl, _, rfl, hd, hl, _, rfl, _, rfl, _, rfl, ?_⟩
  refine ifF (by simp) ⟨_, rfl, h⟩
theorem sc_read_letter : FnScope ["text", "parts", "ahead", "length", "total", "right"] ["text"] (defScope s_read_letter) := ⟨rfl, rfl, rfl, by decide +kernel, rfl, by decide +kernel, by decide +kernel⟩
theorem ok_read_letter {R : Res} {f : Addr} {fd : FuncData} (F : Fun K "read_letter" "read_letter" s_read_letter f fd) (T : Txt K mg) (D_is_numbered : DefP P w K mg base "_is_numbered" 2 FnumD) (D_sum_of : DefP P w K mg base "_sum_of" 1 (FtextB fun x => .int (sumS x))) (D_read_ahead : DefP P w K mg base "_read_ahead" 5 (fun ds q => ∃ d, ds = [.str (aheadD d)] ∧ okD d ∧ isLetter d = true ∧ q d)) : FnG P w K mg base 6 f fd ["text"] (spD K R (fun ds q => ∃ d, ds = [.str (closeS (aheadD d))] ∧ okD d ∧ isLetter d = true ∧ q d)) := by
  refine FunD.ok F sc_read_letter (fun ds q ⟨_, e, _⟩ => by rw [e]; rfl) (fun cdv A outer s H E ds q hr hgd h => ?_)
  obtain ⟨d, rfl, hd, hl, h⟩ := h
  refine ⟨_, (ss_cons (s_if (t_cmp opd_ne opr_ne (d_callTy cd_type call_type1 T.n_type (by decide +kernel) (a_cons (dv 0) a_nil)) (d_ty (n := "str") T.n_str (by decide +kernel))) (ss_one s_never) ss_nil) (ss_cons (s_set (i := 1) sc_read_letter.nd (d_rsplit (dv 0) (a_cons d_str (a_cons d_int a_nil)))) (ss_cons (s_if (PW.pt (t_or (t_cmp opd_ne opr_ne (d_callB cd_len call_len T.n_len (by decide +kernel) (a_cons (dv 1) a_nil)) d_int) (t_or (t_not (t_val (d_call (D_is_numbered _) (hr.mono (by omega)) hgd (a_cons (d_ix (dv 1) d_int) (a_cons (d_gstrT T.c_LENGTH) a_nil))))) (t_or1 (t_not (t_val (d_call (D_is_numbered _) (hr.mono (by omega)) hgd (a_cons (d_ix (dv 1) d_int) (a_cons (d_gstrT T.c_SUM) a_nil))))))))) (ss_one s_never) ss_nil) (ss_cons (s_unpL (is := [2, 3, 4]) rfl (pgs_cons (pg_name (i := 2) sc_read_letter.nd rfl (Or.inl rfl)) (pgs_cons (pg_name (i := 3) sc_read_letter.nd rfl (Or.inl rfl)) (pgs_cons (pg_name (i := 4) sc_read_letter.nd rfl (Or.inl rfl)) pgs_nil))) (dv 1)) (ss_cons (s_if (t_cmp opd_ne opr_ne (dv 3) (d_joined (.cons (d_fmt (d_gstrT T.c_LENGTH)) (.cons (d_fmt (d_callB cd_len call_len T.n_len (by decide +kernel) (a_cons (dv 2) a_nil))) .nil)))) (ss_one s_never) ss_nil) (ss_cons (s_set (i := 5) sc_read_letter.nd (d_call (D_sum_of _) (hr.mono (by omega)) hgd (a_cons (d_joined (.cons (d_fmt (dv 2)) (.cons d_str (.cons (d_fmt (dv 3)) .nil)))) a_nil))) (ss_cons (s_if (t_cmp opd_ne opr_ne (dv 4) (d_joined (.cons (d_fmt (d_gstrT T.c_SUM)) (.cons (d_fmt (dv 5)) .nil)))) (ss_one s_never) ss_nil) (ss_one (s_ret (d_call (D_read_ahead _) (hr.mono (by omega)) hgd (a_cons (dv 2) a_nil))))))))))), ?_⟩
  have hal := aheadD_len hl
  have hf := front_len hal
  generalize ea : aheadD d = a at hal hf h ⊢
  have hs := sum_mod (frontS a)
  have g1 := num_len (i := (a.length : Int)) (by omega) (by omega)
  have g2 := num_len hs.1 (by omega)
  have l4 : ("|" : Str).length = 1 := by decide +kernel
  have l5 : ("length=" : Str).length = 7 := by decide +kernel
  have l6 : ("sum=" : Str).length = 4 := by decide +kernel
  have l0 : Str.empty.length = 0 := rfl
  have hc : (closeS a).length ≤ 200 := by
    unfold closeS
    simp only [len_append, l0, l4, l6]
    omega
  have hL : (lenS a).length ≤ 50 := by
    unfold lenS
    simp only [len_append, l0, l5]
    omega
  have hS : (sumT (frontS a)).length ≤ 50 := by
    unfold sumT
    simp only [len_append, l0, l6]
    omega
  have n1 : (Txt.startswith (lenS a) "length=" && isNumS (cutS (lenS a) (some (("length=" : Str).length : Int)) none)) = true := by
    unfold lenS
    rw [emp_app, starts_app, cut_app, isNum_num (by omega)]
    rfl
  have n2 : (Txt.startswith (sumT (frontS a)) "sum=" && isNumS (cutS (sumT (frontS a)) (some (("sum=" : Str).length : Int)) none)) = true := by
    unfold sumT
    rw [emp_app, starts_app, cut_app, isNum_num hs.1]
    rfl
  have ef : Str.empty ++ a ++ "|" ++ lenS a = frontS a := ext_tl (by
    unfold lenS frontS
    simp only [tl_append, tl_empty, List.nil_append, List.append_assoc])
  have st : ∀ {x : Str}, x.length ≤ 1000 → x.length ≤ sizeLine := fun h => zz h
  refine ⟨.str (closeS a), rfl, .str (closeS a), rfl, rfl, _, neD_ty (d := .str (closeS a)) rfl (by decide), _, rfl, ifF (by rw [decide_eq_true (show kindD (.str (closeS a)) = "str" from rfl)]; rfl) ?_⟩
  refine ⟨.str (closeS a), rfl, closeS a, rfl, "|", 2, rfl, by decide +kernel, by decide, by decide, by rw [sizeLine_eq]; omega, ?_⟩
  have he : (Txt.rsplitMax (closeS a) "|" 2).map D.str = [.str a, .str (lenS a), .str (sumT (frontS a))] := by rw [close_rsplit]; rfl
  rw [he]
  refine ⟨_, rfl, _, rfl, .inl ⟨_, rfl, _, rfl, _, rfl, iteF ?_⟩⟩
  refine ⟨_, rfl, 1, rfl, .inl ⟨_, .str (lenS a), rfl, rfl, lenS a, "length=", rfl, by omega, by omega, _, rfl, ?_⟩⟩
  rw [n1]
  refine iteF ⟨_, rfl, 2, rfl, .inl ⟨_, .str (sumT (frontS a)), rfl, rfl, sumT (frontS a), "sum=", rfl, by omega, by omega, _, rfl, ?_⟩⟩
  rw [n2]
  refine iteF ⟨_, rfl, _, .inr rfl, rfl, ?_⟩
  refine ⟨.str (lenS a), rfl, .inl ⟨"length=", rfl, st (by omega), "length=", rfl, st (by simp only [len_append, l0]; omega), ?_⟩⟩
  refine ⟨.str a, rfl, .str a, rfl, .inr ⟨a, rfl, st (by omega), .inr ⟨_, rfl, log_small (by omega), num a.length, rfl, st (by simp only [len_append, l0, l5]; omega), _, rfl, _, rfl, ?_⟩⟩⟩
  refine ifF (by show (!(lenS a == lenS a)) = false; simp) ?_
  refine ⟨.str a, rfl, .inl ⟨a, rfl, st (by omega), a, rfl, st (by simp only [len_append, l0]; omega), "|", rfl, st (by simp only [len_append, l0, l4]; omega), .str (lenS a), rfl, .inl ⟨lenS a, rfl, st (by omega), lenS a, rfl, st (by simp only [len_append, l0, l4]; omega), ?_⟩⟩⟩
  rw [ef]
  refine ⟨frontS a, rfl, by omega, ?_⟩
  refine ⟨.str (sumT (frontS a)), rfl, .inl ⟨"sum=", rfl, st (by omega), "sum=", rfl, st (by simp only [len_append, l0]; omega), ?_⟩⟩
  refine ⟨.int (sumS (frontS a)), rfl, .inr ⟨_, rfl, log_small (by omega), num (sumS (frontS a)), rfl, st (by simp only [len_append, l0, l6]; omega), _, rfl, _, rfl, ?_⟩⟩
  refine ifF (by show (!(sumT (frontS a) == sumT (frontS a))) = false; simp) ?_
  exact ⟨.str a, rfl, d, by rw [ea], hd, hl, h⟩
end
end K3

set_option Elab.async false
set_option linter.all false
set_option maxRecDepth 100000
set_option maxHeartbeats 4000000
namespace K3
open PySem PySem.Spec PyProof.Rows L2 Dl
section
variable {P : Program} {w : World} {K : PySem.W.Frag} {mg : Str → Option Value} {base : Heap}
/-! ### the law's draws -/
abbrev DefPot (P : Program) (w : World) (K : PySem.W.Frag) (mg : Str → Option Value) (base : Heap) (a : Addr) (x : Str) (k : Nat) (Fd : DCall) : Prop := ∀ {R : Res}, PotAt a R → Def P w K mg base x k (spD K R Fd)
def Fpull (a : Addr) : DCall := fun ds q => ∃ n : Int, ds = [.ptr a, .int n] ∧ 0 < n ∧ n < 1073741824 ∧ ∀ k : Int, 0 ≤ k → k < n → q (.int k)
theorem sc_law_pull : FnScope ["pot", "size", "digit", "state"] ["pot", "size"] (defScope s_law_pull) := ⟨rfl, rfl, rfl, by decide +kernel, rfl, by decide +kernel, by decide +kernel⟩
theorem ok_law_pull {R : Res} {a : Addr} (hp : PotAt a R) {f : Addr} {fd : FuncData} (F : Fun K "_law_pull" "_law_pull" s_law_pull f fd) (T : Txt K mg) : FnG P w K mg base 1 f fd ["pot", "size"] (spD K R (Fpull a)) := by
  refine FunD.ok F sc_law_pull (fun ds q ⟨_, e, _⟩ => by rw [e]; rfl) (fun cdv A outer s H E ds q hr hgd h => ?_)
  obtain ⟨n, rfl, h0, h1, h⟩ := h
  refine ⟨_, (ss_cons (s_pot (i := 0) (k := 2) hp (by decide) (d_op opd_add opr_add (d_pot (i := 0) (k := 2) hp (by decide)) d_int)) (ss_cons (s_if (t_cmp opd_cmpI op_gt (d_pot (i := 0) (k := 0) hp (by decide)) d_int) (ss_cons (s_potUnp (i := 0) (j0 := 2) (k := 0) sc_law_pull.nd rfl hp (by decide) (d_callB cd_divmod call_divmod T.n_divmod (by decide +kernel) (a_cons (d_pot (i := 0) (k := 0) hp (by decide)) (a_cons (dv 1) a_nil))) (by decide)) (ss_one (s_ret (dv 2)))) ss_nil) (ss_cons (s_set (i := 3) sc_law_pull.nd (d_op opd_int op_mod (d_pot (i := 0) (k := 1) hp (by decide)) d_int)) (ss_cons (s_pot (i := 0) (k := 1) hp (by decide) (d_op opd_add opr_add (d_op opd_int op_mul (dv 3) (d_op opd_add opr_add (d_op opd_int op_mod (dv 3) d_int) d_int)) (d_op opd_int op_mul d_int (d_pot (i := 0) (k := 2) hp (by decide))))) (ss_one (s_ret (d_op opd_int op_mod (d_op opd_int op_fdiv (d_op opd_int op_mod (d_pot (i := 0) (k := 1) hp (by decide)) d_int) d_int) (dv 1)))))))), ?_⟩
  refine ⟨rfl, rfl, fun u => ⟨_, rfl, ?_⟩⟩
  refine ⟨rfl, fun x0 => ⟨_, _, rfl, rfl, trivial, _, rfl, ?_⟩⟩
  refine ifB (fun _ => ?_) (fun _ => ?_)
  · refine ⟨rfl, rfl, fun y => ⟨.int n, rfl, y, n, rfl, ⟨h0, h1⟩, _, _, rfl, _, rfl, ?_⟩⟩
    exact h _ (Int.emod_nonneg _ (by omega)) (Int.emod_lt_of_pos _ h0)
  · refine ⟨rfl, fun y => ⟨_, _, rfl, rfl, (show (0:Int) < 1000000409 by decide), ?_⟩⟩
    refine ⟨rfl, _, rfl, _, rfl, _, _, rfl, rfl, (show (0:Int) < 47017 by decide), _, _, rfl, rfl, .inl ⟨?_, ?_⟩, rfl, fun z => ⟨_, _, rfl, rfl, .inl ⟨by decide, by decide⟩, _, rfl, ?_⟩⟩
    · have := Int.emod_nonneg y (show (1000000409 : Int) ≠ 0 by decide); omega
    · have := Int.emod_lt_of_pos y (show (0 : Int) < 1000000409 by decide); omega
    refine ⟨rfl, fun z2 => ⟨_, _, rfl, rfl, (show (0:Int) < 1000000409 by decide), _, _, rfl, rfl, (⟨by decide, by decide⟩ : CDiv 0 32), .int n, rfl, _, n, rfl, rfl, h0, ?_⟩⟩
    exact h _ (Int.emod_nonneg _ (by omega)) (Int.emod_lt_of_pos _ h0)
def Fnumber (a : Addr) : DCall := fun ds q => ∃ l : Int, ds = [.ptr a, .int l] ∧ 0 ≤ l ∧ l ≤ 1 ∧ ∀ k : Int, l ≤ k → k ≤ 9999 → q (.int k)
theorem sc_law_number : FnScope ["pot", "least"] ["pot", "least"] (defScope s_law_number) := ⟨rfl, rfl, rfl, by decide +kernel, rfl, by decide +kernel, by decide +kernel⟩
theorem ok_law_number {R : Res} {a : Addr} (hp : PotAt a R) {f : Addr} {fd : FuncData} (F : Fun K "_law_number" "_law_number" s_law_number f fd) (T : Txt K mg) (D_law_pull : DefPot P w K mg base a "_law_pull" 1 (Fpull a)) : FnG P w K mg base 2 f fd ["pot", "least"] (spD K R (Fnumber a)) := by
  refine FunD.ok F sc_law_number (fun ds q ⟨_, e, _⟩ => by rw [e]; rfl) (fun cdv A outer s H E ds q hr hgd h => ?_)
  obtain ⟨l, rfl, h0, h1, h⟩ := h
  refine ⟨_, (ss_one (s_ret (d_ix (d_lst (a_cons (dv 1) (a_cons (d_op opd_add opr_add (dv 1) (d_call (D_law_pull hp) (hr.mono (by omega)) hgd (a_cons (dv 0) (a_cons d_int a_nil)))) (a_cons d_int (a_cons (d_op opd_add opr_add (dv 1) (d_call (D_law_pull hp) (hr.mono (by omega)) hgd (a_cons (dv 0) (a_cons (d_op opd_sub opr_sub d_int (dv 1)) a_nil)))) a_nil))))) (d_call (D_law_pull hp) (hr.mono (by omega)) hgd (a_cons (dv 0) (a_cons d_int a_nil)))))), ?_⟩
  refine ⟨.int l, rfl, .int l, rfl, .ptr a, rfl, 12, rfl, by decide, by decide, fun k1 a1 b1 => ?_⟩
  refine ⟨.int l, rfl, .ptr a, rfl, .int l, rfl, _, rfl, by omega, by omega, fun k2 a2 b2 => ?_⟩
  refine ⟨by rw [sizeLine_eq]; exact (by decide : (4 : Nat) ≤ 16777216), .ptr a, rfl, 4, rfl, by decide, by decide, fun k3 a3 b3 => ?_⟩
  obtain ⟨d, e1, e2⟩ := atI_mem (ds := [D.int l, .int (l + k1), .int 9999, .int (l + k2)]) a3 b3
  refine ⟨k3, rfl, .inl ⟨_, d, rfl, e1, ?_⟩⟩
  simp only [List.mem_cons, List.not_mem_nil, or_false] at e2
  rcases e2 with rfl | rfl | rfl | rfl
  · exact h _ (by omega) (by omega)
  · exact h _ (by omega) (by omega)
  · exact h _ (by omega) (by omega)
  · exact h _ (by omega) (by omega)
def Fphrase (a : Addr) : DCall := fun ds q => ds = [.ptr a] ∧ ∀ x : Str, isText (.str x) = true → q (.str x)
theorem join_signs : ∀ l : List Nat, (Str.join (Str.ofString "") (l.map fun c => (⟨#[c]⟩ : Str))).cps.toList = l
  | [] => rfl
  | [c] => rfl
  | c :: d :: l => by
    have ih := join_signs (d :: l)
    show ((⟨#[c]⟩ : Str) ++ (Str.ofString "") ++ Str.join (Str.ofString "") ((d :: l).map fun c => (⟨#[c]⟩ : Str))).cps.toList = _
    rw [Str.cps_append, Str.cps_append, Array.toList_append, ih]
    rfl
theorem txt_join_signs (l : List Nat) : (Txt.join (Str.ofString "") (l.map fun c => (⟨#[c]⟩ : Str))).cps.toList = l := by
  show (Builtin.Str.glued (Str.ofString "") _).cps.toList = _
  rw [StrLaws.glued_eq_join]
  exact join_signs l
theorem isText_of {x : Str} (h1 : 1 ≤ x.cps.toList.length) (h2 : x.cps.toList.length ≤ 20) (h3 : ∀ c ∈ x.cps.toList, c ∈ signs.cps.toList) : isText (.str x) = true := by
  show (decide (1 ≤ x.length) && decide (x.length ≤ 20) && x.cps.toList.all fun c => decide (c ∈ signs.cps.toList)) = true
  have e : x.length = x.cps.toList.length := rfl
  rw [e, decide_eq_true h1, decide_eq_true h2, List.all_eq_true.mpr fun c hc => decide_eq_true (h3 c hc)]
  rfl
theorem ones_of : ∀ (es : List D) (Pc : Nat → Prop), (∀ e ∈ es, ∃ c, Pc c ∧ e = D.str ⟨#[c]⟩) → ∃ cs : List Nat, es = (cs.map fun c => (⟨#[c]⟩ : Str)).map D.str ∧ cs.length = es.length ∧ ∀ c ∈ cs, Pc c
  | [], _, _ => ⟨[], rfl, rfl, fun _ m => absurd m (by simp)⟩
  | e :: es, Pc, h => by
    obtain ⟨c, hc, rfl⟩ := h e List.mem_cons_self
    obtain ⟨cs, rfl, hl, hp⟩ := ones_of es Pc fun e' m => h e' (List.mem_cons_of_mem _ m)
    refine ⟨c :: cs, rfl, by simp, fun d m => ?_⟩
    rcases List.mem_cons.mp m with rfl | m
    · exact hc
    · exact hp d m
theorem sum_ones : ∀ cs : List Nat, ((cs.map fun c => (⟨#[c]⟩ : Str)).map (·.length)).sum = cs.length
  | [] => rfl
  | c :: cs => by
    have := sum_ones cs
    simp only [List.map_cons, List.sum_cons, this, List.length_cons]
    show 1 + cs.length = _
    omega
theorem sc_law_phrase : FnScope ["pot", "signs", "menu", "k"] ["pot"] (defScope s_law_phrase) := ⟨rfl, rfl, rfl, by decide +kernel, rfl, by decide +kernel, by decide +kernel⟩
theorem ok_law_phrase {R : Res} {a : Addr} (hp : PotAt a R) {f : Addr} {fd : FuncData} (F : Fun K "_law_phrase" "_law_phrase" s_law_phrase f fd) (T : Txt K mg) (D_law_pull : DefPot P w K mg base a "_law_pull" 1 (Fpull a)) : FnG P w K mg base 2 f fd ["pot"] (spD K R (Fphrase a)) := by
  refine FunD.ok F sc_law_phrase (fun ds q ⟨e, _⟩ => by rw [e]; rfl) (fun cdv A outer s H E ds q hr hgd h => ?_)
  obtain ⟨rfl, h⟩ := h
  refine ⟨_, (ss_cons (s_set (i := 1) sc_law_phrase.nd d_str) (ss_cons (s_set (i := 2) sc_law_phrase.nd (d_lst (a_cons d_str (a_cons d_str (a_cons d_str (a_cons d_str (a_cons d_str (a_cons d_str (a_cons d_str (a_cons d_str (a_cons d_str (a_cons d_str (a_cons d_str (a_cons d_str (a_cons d_str (a_cons d_str (a_cons d_str a_nil))))))))))))))))) (ss_cons (s_if (t_cmp opd_eq (opr_eq hr.units0) (d_call (D_law_pull hp) (hr.mono (by omega)) hgd (a_cons (dv 0) (a_cons d_int a_nil))) d_int) (ss_one (s_ret (d_ix (dv 2) (d_call (D_law_pull hp) (hr.mono (by omega)) hgd (a_cons (dv 0) (a_cons d_int a_nil)))))) ss_nil) (ss_one (s_ret (d_join d_str (d_lc (i := 3) rfl sc_law_phrase.nd (i_range T.n_range (a_cons (d_op opd_add opr_add d_int (d_call (D_law_pull hp) (hr.mono (by omega)) hgd (a_cons (dv 0) (a_cons (d_ix (d_lst (a_cons d_int (a_cons d_int a_nil))) (d_call (D_law_pull hp) (hr.mono (by omega)) hgd (a_cons (dv 0) (a_cons d_int a_nil)))) a_nil)))) a_nil)) (blkOk_by (own := [("k", 3)]) (N := ["pot", "signs", "menu", "k"]) (sc := defScope s_law_phrase) (by decide +kernel)) (fun _ _ _ _ _ => pg_name (i := 3) sc_law_phrase.nd rfl (Or.inl rfl)) (fun _ _ _ _ _ A => (d_ix (dv 1) (d_call (D_law_pull hp.add) (hr.mono (by omega)) hgd (a_cons (dv 0) (a_cons d_int a_nil)))))))))))), ?_⟩
  refine ⟨by rw [sizeLine_eq]; exact (by decide : (15 : Nat) ≤ 16777216), .ptr a, rfl, 3, rfl, by decide, by decide, fun k1 a1 b1 => ⟨_, rfl, _, rfl, ?_⟩⟩
  refine ifB (fun _ => ?_) (fun _ => ?_)
  · refine ⟨_, rfl, .ptr a, rfl, 15, rfl, by decide, by decide, fun k2 a2 b2 => ?_⟩
    obtain ⟨d, e1, e2⟩ := atI_mem (ds := [D.str "tell", .str "word", .str "own", .str "yes", .str "no", .str "lost", .str "round", .str "a", .str "b", .str " ", .str "0", .str "hello", .str "bye", .str "fill", .str "again"]) a2 b2
    refine ⟨k2, rfl, .inl ⟨_, d, rfl, e1, ?_⟩⟩
    have key : ∀ d ∈ [D.str "tell", .str "word", .str "own", .str "yes", .str "no", .str "lost", .str "round", .str "a", .str "b", .str " ", .str "0", .str "hello", .str "bye", .str "fill", .str "again"], ∃ x, d = .str x ∧ isText (.str x) = true := by
      intro d hd
      simp only [List.mem_cons, List.not_mem_nil, or_false] at hd
      rcases hd with rfl | rfl | rfl | rfl | rfl | rfl | rfl | rfl | rfl | rfl | rfl | rfl | rfl | rfl | rfl <;> exact ⟨_, rfl, by decide +kernel⟩
    obtain ⟨x, rfl, hx⟩ := key d e2
    exact h x hx
  · refine ⟨_, rfl, .ptr a, rfl, by rw [sizeLine_eq]; exact (by decide : (2 : Nat) ≤ 16777216), .ptr a, rfl, 2, rfl, by decide, by decide, fun k2 a2 b2 => ?_⟩
    obtain ⟨d, e1, e2⟩ := atI_mem (ds := [D.int 3, .int 20]) a2 b2
    refine ⟨k2, rfl, .inl ⟨_, d, rfl, e1, ?_⟩⟩
    obtain ⟨m, rfl, m0, m1⟩ : ∃ m : Int, d = .int m ∧ 0 < m ∧ m ≤ 20 := by
      simp only [List.mem_cons, List.not_mem_nil, or_false] at e2
      rcases e2 with rfl | rfl <;> exact ⟨_, rfl, by decide, by decide⟩
    refine ⟨m, rfl, m0, by omega, fun k3 a3 b3 => ?_⟩
    refine ⟨_, rfl, by omega, by omega, ?_⟩
    refine ⟨by rw [List.length_map, List.length_range, sizeLine_eq]; omega, fun _ e => ∃ c, c ∈ signs.cps.toList ∧ e = D.str ⟨#[c]⟩, fun j d hj => ?_, fun es hl hP => ?_⟩
    · refine ⟨.str signs, rfl, .ptr a, rfl, 37, rfl, by decide, by decide, fun k4 a4 b4 => ?_⟩
      obtain ⟨n, c, rfl, hn, q1, q2⟩ := atI_place (ds := signs.cps.toList) a4 (by rw [show signs.cps.toList.length = 37 by decide +kernel]; exact b4)
      exact ⟨_, rfl, .inr ⟨signs, c, rfl, by rw [sizeLine_eq]; decide +kernel, q1, c, List.mem_of_getElem? q2, rfl⟩⟩
    · obtain ⟨cs, rfl, hc, hcs⟩ := ones_of es (fun c => c ∈ signs.cps.toList) fun e m => by
        obtain ⟨j, hj⟩ := List.mem_iff_getElem?.mp m
        exact hP j e hj
      have hlc : cs.length = (1 + k3).toNat := by rw [hc, hl, List.length_map, List.length_range]
      refine ⟨_, .inr rfl, by rw [sum_ones, List.length_map]; show cs.length + cs.length * 0 ≤ _; omega, h _ (isText_of ?_ ?_ ?_)⟩
      · rw [txt_join_signs]; omega
      · rw [txt_join_signs]; omega
      · rw [txt_join_signs]; exact hcs
/-! ### a letter, drawn -/
def words : List Str := ["word", "beat", "test", "ask", "fill", "hello", "bye"]
theorem words_asc : ∀ z ∈ words, asc z ∧ z.length ≤ 5 := by
  intro z hz
  simp only [words, List.mem_cons, List.not_mem_nil, or_false] at hz
  unfold asc
  rcases hz with rfl | rfl | rfl | rfl | rfl | rfl | rfl <;> decide +kernel
theorem bd_mail {s z : Str} {n : Int} {b : Bool} {ps : List D} (hs : s = "a" ∨ s = "b") (h0 : 0 ≤ n) (h1 : n ≤ 9999) (hz : z ∈ words) (hp : Bds 45 0 10000 ps) : Bd 70 2 10000 (.tup [.str s, .int n, .bl b, .tup (.str z :: ps)]) := by
  obtain ⟨az, lz⟩ := words_asc z hz
  have as : asc s ∧ s.length = 1 := by unfold asc; rcases hs with rfl | rfl <;> decide +kernel
  have hb : Bd 53 1 10000 (.tup (.str z :: ps)) := (Bds.cons (s := 52) (t := 0) (u := 10000) (s1 := 6) (s2 := 45) (Bd.str (by omega) az) hp (by decide)).tup
  refine Bd.mono (s := 62) (t := 2) (u := 10000) ?_ (by decide) (by decide) (by decide)
  refine Bds.tup (s := 61) (t := 1) (u := 10000) ?_
  refine Bds.cons (s1 := 2) (s2 := 58) (Bd.str (by omega) as.1) ?_ (by decide)
  refine Bds.cons (s1 := 1) (s2 := 56) (Bd.int (by decide) (by omega) (by decide)) ?_ (by decide)
  refine Bds.cons (s1 := 1) (s2 := 54) (Bd.bl (by decide)) ?_ (by decide)
  exact Bds.cons (s1 := 53) (s2 := 0) hb Bds.nil (by decide)
theorem bds_ints {l : List D} (h : ∀ d ∈ l, (∃ i : Int, d = .int i ∧ -10000 ≤ i ∧ i ≤ 10000) ∨ ∃ b, d = .bl b) (hl : l.length ≤ 6) : Bds 45 0 10000 l := by
  have key : ∀ l : List D, (∀ d ∈ l, (∃ i : Int, d = .int i ∧ -10000 ≤ i ∧ i ≤ 10000) ∨ ∃ b, d = .bl b) → Bds (2 * l.length) 0 10000 l := by
    intro l
    induction l with
    | nil => exact fun _ => Bds.nil
    | cons d l ih =>
      intro h
      refine Bds.cons (s1 := 1) (s2 := 2 * l.length) ?_ (ih fun e m => h e (List.mem_cons_of_mem _ m)) (by simp only [List.length_cons]; omega)
      rcases h d List.mem_cons_self with ⟨i, rfl, a, b⟩ | ⟨b, rfl⟩
      · exact Bd.int (by decide) (by omega) (by decide)
      · exact Bd.bl (by decide)
  exact (key l h).mono (by omega) (Nat.le_refl _) (Nat.le_refl _)
theorem text_bd {x : Str} (h : isText (.str x) = true) : Bd 21 0 10000 (.str x) := by
  have h' : (decide (1 ≤ x.length) && decide (x.length ≤ 20) && x.cps.toList.all fun c => decide (c ∈ signs.cps.toList)) = true := h
  simp only [Bool.and_eq_true, decide_eq_true_eq, List.all_eq_true] at h'
  refine Bd.str (by omega) fun c hc => ?_
  have key : ∀ c ∈ signs.cps.toList, c < 128 := by decide +kernel
  exact key c (h'.2 c hc)
def Fmail (a : Addr) : DCall := fun ds q => ∃ s : Str, ds = [.ptr a, .str s] ∧ (s = "a" ∨ s = "b") ∧ ∀ d, isLetter d = true → Bd 70 2 10000 d → q d
theorem isSide_of {s : Str} (h : s = "a" ∨ s = "b") : isSide (.str s) = true := by rcases h with rfl | rfl <;> decide +kernel
theorem isWhole_of {i lo hi : Int} (h0 : lo ≤ i) (h1 : i ≤ hi) : isWhole (.int i) lo hi = true := by
  show (decide (lo ≤ i) && decide (i ≤ hi)) = true
  rw [decide_eq_true h0, decide_eq_true h1]; rfl
theorem mail_of {q : D → Prop} (h : ∀ d, isLetter d = true → Bd 70 2 10000 d → q d) {s z : Str} {n : Int} {b : Bool} {ps : List D} (hs : s = "a" ∨ s = "b") (h0 : 0 ≤ n) (h1 : n ≤ 9999) (hz : z ∈ words) (hb : isBody (.tup (.str z :: ps)) = true) (hg : goT n b z ps = true) (hp : Bds 45 0 10000 ps) :
    q (.tup [.str s, .int n, .bl b, .tup (.str z :: ps)]) := by
  refine h _ ?_ (bd_mail hs h0 h1 hz hp)
  show (isSide (.str s) && (decide (0 ≤ n) && decide (n ≤ 9999)) && isBody (.tup (.str z :: ps)) && goT n b z ps) = true
  rw [isSide_of hs, decide_eq_true h0, decide_eq_true h1, hb, hg]; rfl
theorem sc_law_mail : FnScope ["pot", "sender", "pick", "number", "low", "truths", "high", "behind", "turn", "past", "awaited"] ["pot", "sender"] (defScope s_law_mail) := ⟨rfl, rfl, rfl, by decide +kernel, rfl, by decide +kernel, by decide +kernel⟩
theorem ok_law_mail {R : Res} {a : Addr} (hp : PotAt a R) {f : Addr} {fd : FuncData} (F : Fun K "_law_mail" "_law_mail" s_law_mail f fd) (T : Txt K mg) (D_law_pull : DefPot P w K mg base a "_law_pull" 1 (Fpull a)) (D_law_number : DefPot P w K mg base a "_law_number" 2 (Fnumber a)) (D_law_phrase : DefPot P w K mg base a "_law_phrase" 2 (Fphrase a)) :
    FnG P w K mg base 3 f fd ["pot", "sender"] (spD K R (Fmail a)) := by
  refine FunD.ok F sc_law_mail (fun ds q ⟨_, e, _⟩ => by rw [e]; rfl) (fun cdv A outer s H E ds q hr hgd h => ?_)
  obtain ⟨z, rfl, hz, h⟩ := h
  refine ⟨_, (ss_cons (s_par (i := 2) (j := 3) sc_law_mail.nd rfl (by decide) (a_cons (d_call (D_law_pull hp) (hr.mono (by omega)) hgd (a_cons (dv 0) (a_cons d_int a_nil))) (a_cons (d_call (D_law_number hp) (hr.mono (by omega)) hgd (a_cons (dv 0) (a_cons d_int a_nil))) a_nil))) (ss_cons (s_par (i := 4) (j := 5) sc_law_mail.nd rfl (by decide) (a_cons (d_call (D_law_number hp) (hr.mono (by omega)) hgd (a_cons (dv 0) (a_cons d_int a_nil))) (a_cons (d_lst (a_cons (d_cmp opd_eq (opr_eq hr.units0) (d_call (D_law_pull hp) (hr.mono (by omega)) hgd (a_cons (dv 0) (a_cons d_int a_nil))) d_int) (a_cons (d_cmp opd_eq (opr_eq hr.units0) (d_call (D_law_pull hp) (hr.mono (by omega)) hgd (a_cons (dv 0) (a_cons d_int a_nil))) d_int) a_nil))) a_nil))) (ss_cons (s_if (t_cmp opd_cmpI op_lt (dv 2) d_int) (ss_one (s_ret (d_tup (a_cons (dv 1) (a_cons (dv 3) (a_cons (d_ix (dv 5) d_int) (a_cons (d_tup (a_cons d_str (a_cons (d_call (D_law_phrase hp) (hr.mono (by omega)) hgd (a_cons (dv 0) a_nil)) a_nil))) a_nil))))))) ss_nil) (ss_cons (s_if (t_cmp opd_eq (opr_eq hr.units0) (dv 2) d_int) (ss_one (s_ret (d_tup (a_cons (dv 1) (a_cons (dv 3) (a_cons d_bl (a_cons (d_tup (a_cons d_str (a_cons (d_call (D_law_number hp) (hr.mono (by omega)) hgd (a_cons (dv 0) (a_cons d_int a_nil))) a_nil))) a_nil))))))) ss_nil) (ss_cons (s_if (t_cmp opd_eq (opr_eq hr.units0) (dv 2) d_int) (ss_one (s_ret (d_tup (a_cons (dv 1) (a_cons (dv 3) (a_cons d_bl (a_cons (d_tup (a_cons d_str (a_cons (dv 4) a_nil))) a_nil))))))) ss_nil) (ss_cons (s_if (t_cmp opd_eq (opr_eq hr.units0) (dv 2) d_int) (ss_cons (s_set (i := 6) sc_law_mail.nd (d_ix (d_lst (a_cons d_int (a_cons (dv 4) (a_cons d_int (a_cons (d_op opd_add opr_add (dv 4) (d_call (D_law_pull hp) (hr.mono (by omega)) hgd (a_cons (dv 0) (a_cons (d_op opd_sub opr_sub d_int (dv 4)) a_nil)))) a_nil))))) (d_call (D_law_pull hp) (hr.mono (by omega)) hgd (a_cons (dv 0) (a_cons d_int a_nil))))) (ss_one (s_ret (d_tup (a_cons (dv 1) (a_cons (dv 3) (a_cons d_bl (a_cons (d_tup (a_cons d_str (a_cons (dv 4) (a_cons (dv 6) a_nil)))) a_nil)))))))) ss_nil) (ss_cons (s_if (t_cmp opd_eq (opr_eq hr.units0) (dv 2) d_int) (ss_cons (s_set (i := 7) sc_law_mail.nd (d_op opd_add opr_add (d_op opd_add opr_add (dv 3) d_int) (d_call (D_law_pull hp) (hr.mono (by omega)) hgd (a_cons (dv 0) (a_cons (d_ix (d_lst (a_cons d_int (a_cons d_int (a_cons (d_op opd_sub opr_sub d_int (dv 3)) a_nil)))) (d_call (D_law_pull hp) (hr.mono (by omega)) hgd (a_cons (dv 0) (a_cons d_int a_nil)))) a_nil))))) (ss_one (s_ret (d_tup (a_cons (dv 1) (a_cons (dv 3) (a_cons d_bl (a_cons (d_tup (a_cons d_str (a_cons (d_callB cd_int2 (call_min2 rfl) T.n_min (by decide +kernel) (a_cons d_int (a_cons (dv 7) a_nil))) a_nil))) a_nil)))))))) ss_nil) (ss_cons (s_if (t_cmp opd_eq (opr_eq hr.units0) (dv 2) d_int) (ss_one (s_ret (d_tup (a_cons (dv 1) (a_cons d_int (a_cons d_bl (a_cons (d_tup (a_cons d_str a_nil)) a_nil))))))) ss_nil) (ss_cons (s_par (i := 8) (j := 9) sc_law_mail.nd rfl (by decide) (a_cons (d_ix (d_lst (a_cons d_int (a_cons d_int (a_cons d_int (a_cons (d_call (D_law_pull hp) (hr.mono (by omega)) hgd (a_cons (dv 0) (a_cons d_int a_nil))) a_nil))))) (d_call (D_law_pull hp) (hr.mono (by omega)) hgd (a_cons (dv 0) (a_cons d_int a_nil)))) (a_cons (d_ix (d_lst (a_cons d_int (a_cons d_int (a_cons d_int a_nil)))) (d_call (D_law_pull hp) (hr.mono (by omega)) hgd (a_cons (dv 0) (a_cons d_int a_nil)))) a_nil))) (ss_cons (s_set (i := 10) sc_law_mail.nd (d_ix (d_lst (a_cons (dv 4) (a_cons d_int a_nil))) (d_call (D_law_pull hp) (hr.mono (by omega)) hgd (a_cons (dv 0) (a_cons d_int a_nil))))) (ss_one (s_ret (d_tup (a_cons (dv 1) (a_cons d_int (a_cons d_bl (a_cons (d_op opd_add opr_add (d_tup (a_cons d_str (a_cons (dv 8) (a_cons (d_call (D_law_number hp) (hr.mono (by omega)) hgd (a_cons (dv 0) (a_cons d_int a_nil))) (a_cons (dv 10) (a_cons (dv 9) a_nil)))))) (d_callTy cd_tuple call_tuple_of T.n_tuple (by decide +kernel) (a_cons (dv 5) a_nil))) a_nil))))))))))))))))), ?_⟩
  have z2 : (2 : Nat) ≤ sizeLine := by rw [sizeLine_eq]; exact (by decide : (2 : Nat) ≤ 16777216)
  refine ⟨.ptr a, rfl, 8, rfl, by decide, by decide, fun pk p0 p1 => ⟨.ptr a, rfl, 1, rfl, by decide, by decide, fun n n0 n1 => ⟨_, _, rfl, ?_⟩⟩⟩
  refine ⟨.ptr a, rfl, 1, rfl, by decide, by decide, fun lo l0 l1 => ⟨.ptr a, rfl, 2, rfl, by decide, by decide, fun t1 _ _ => ⟨_, rfl, .ptr a, rfl, 2, rfl, by decide, by decide, fun t2 _ _ => ⟨_, rfl, z2, _, _, rfl, ?_⟩⟩⟩⟩
  have z4 : (4 : Nat) ≤ sizeLine := by rw [sizeLine_eq]; exact (by decide : (4 : Nat) ≤ 16777216)
  have z3 : (3 : Nat) ≤ sizeLine := by rw [sizeLine_eq]; exact (by decide : (3 : Nat) ≤ 16777216)
  have z1 : (1 : Nat) ≤ sizeLine := by rw [sizeLine_eq]; exact (by decide : (1 : Nat) ≤ 16777216)
  have z5 : (5 : Nat) ≤ sizeLine := by rw [sizeLine_eq]; exact (by decide : (5 : Nat) ≤ 16777216)
  have z7 : (7 : Nat) ≤ sizeLine := by rw [sizeLine_eq]; exact (by decide : (7 : Nat) ≤ 16777216)
  have hn0 : ¬ n = 0 := by omega
  refine ⟨_, rfl, _, _, rfl, rfl, trivial, _, rfl, ?_⟩
  refine ifB (fun _ => ?_) (fun _ => ?_)
  · refine ⟨.str z, rfl, .int n, rfl, _, rfl, 0, rfl, .inl ⟨_, .bl (t1 == 1), rfl, rfl, ⟨.ptr a, rfl, rfl, fun x hx => ⟨z2, z4, ?_⟩⟩⟩⟩
    refine mail_of h hz (by omega) n1 (by decide) ?_ ?_ (Bds.cons (s1 := 21) (s2 := 0) (text_bd hx) Bds.nil (by decide))
    · show isText (.str x) = true
      exact hx
    · show (if _ then _ else _) = true
      rw [if_neg (by decide +kernel), if_neg hn0, if_pos rfl]
  refine ⟨_, rfl, _, rfl, _, rfl, ?_⟩
  refine ifB (fun _ => ?_) (fun _ => ?_)
  · refine ⟨.str z, rfl, .int n, rfl, .ptr a, rfl, 0, rfl, by decide, by decide, fun k k0 k1 => ⟨z2, z4, ?_⟩⟩
    refine mail_of h hz (by omega) n1 (by decide) ?_ ?_ (bds_ints (by intro d hd; left; simp only [List.mem_cons, List.not_mem_nil, or_false] at hd; subst hd; exact ⟨_, rfl, by omega, by omega⟩) (by simp))
    · show isWhole (.int k) 0 9999 = true
      exact isWhole_of k0 k1
    · show (if _ then _ else _) = true
      rw [if_neg (by decide +kernel), if_neg hn0, if_neg (by decide +kernel), if_neg (by decide +kernel)]; rfl
  refine ⟨_, rfl, _, rfl, _, rfl, ?_⟩
  refine ifB (fun _ => ?_) (fun _ => ?_)
  · refine ⟨.str z, rfl, .int n, rfl, .int lo, rfl, z2, z4, ?_⟩
    refine mail_of h hz (by omega) n1 (by decide) ?_ ?_ (bds_ints (by intro d hd; left; simp only [List.mem_cons, List.not_mem_nil, or_false] at hd; subst hd; exact ⟨_, rfl, by omega, by omega⟩) (by simp))
    · show isWhole (.int lo) 1 9999 = true
      exact isWhole_of l0 l1
    · show (if _ then _ else _) = true
      rw [if_neg (by decide +kernel), if_neg hn0, if_neg (by decide +kernel), if_neg (by decide +kernel)]; rfl
  refine ⟨_, rfl, _, rfl, _, rfl, ?_⟩
  refine ifB (fun _ => ?_) (fun _ => ?_)
  · refine ⟨.int lo, rfl, .int lo, rfl, .ptr a, rfl, .int lo, rfl, _, rfl, by omega, by omega, fun k k0 k1 => ⟨z4, .ptr a, rfl, 4, rfl, by decide, by decide, fun j j0 j1 => ?_⟩⟩
    obtain ⟨d, e1, e2⟩ := atI_mem (ds := [D.int 0, .int lo, .int 9999, .int (lo + k)]) j0 j1
    obtain ⟨hi, rfl, hh⟩ : ∃ hi : Int, d = .int hi ∧ (hi = 0 ∨ (lo ≤ hi ∧ hi ≤ 9999)) := by
      simp only [List.mem_cons, List.not_mem_nil, or_false] at e2
      rcases e2 with rfl | rfl | rfl | rfl
      · exact ⟨_, rfl, .inl rfl⟩
      · exact ⟨_, rfl, .inr ⟨by omega, by omega⟩⟩
      · exact ⟨_, rfl, .inr ⟨by omega, by omega⟩⟩
      · exact ⟨_, rfl, .inr ⟨by omega, by omega⟩⟩
    refine ⟨j, rfl, .inl ⟨_, .int hi, rfl, e1, ?_⟩⟩
    refine ⟨.str z, rfl, .int n, rfl, .int lo, rfl, .int hi, rfl, z3, z4, ?_⟩
    refine mail_of h hz (by omega) n1 (by decide) ?_ ?_ (bds_ints (by intro d hd; left; simp only [List.mem_cons, List.not_mem_nil, or_false] at hd; rcases hd with rfl | rfl <;> exact ⟨_, rfl, by omega, by omega⟩) (by simp))
    · show (decide (1 ≤ lo) && decide (lo ≤ 9999) && (isWhole (.int hi) 0 0 || isWhole (.int hi) lo 9999)) = true
      rw [decide_eq_true l0, decide_eq_true l1]
      rcases hh with rfl | ⟨x, y⟩
      · rfl
      · rw [isWhole_of x y, Bool.or_true]; rfl
    · show (if _ then _ else _) = true
      rw [if_neg (by decide +kernel), if_neg hn0, if_neg (by decide +kernel), if_neg (by decide +kernel)]; rfl
  refine ⟨_, rfl, _, rfl, _, rfl, ?_⟩
  refine ifB (fun _ => ?_) (fun _ => ?_)
  · refine ⟨.int n, rfl, .ptr a, rfl, .int n, rfl, z3, .ptr a, rfl, 3, rfl, by decide, by decide, fun j j0 j1 => ?_⟩
    obtain ⟨d, e1, e2⟩ := atI_mem (ds := [D.int 1, .int 5, .int (10000 - n)]) j0 j1
    obtain ⟨m, rfl, m0, m1⟩ : ∃ m : Int, d = .int m ∧ 0 < m ∧ m ≤ 9999 := by
      simp only [List.mem_cons, List.not_mem_nil, or_false] at e2
      rcases e2 with rfl | rfl | rfl <;> exact ⟨_, rfl, by omega, by omega⟩
    refine ⟨j, rfl, .inl ⟨_, .int m, rfl, e1, m, rfl, m0, by omega, fun k k0 k1 => ?_⟩⟩
    refine ⟨.str z, rfl, .int n, rfl, _, rfl, 10000, n + 1 + k, rfl, z2, z4, ?_⟩
    have hm : n < (if n + 1 + k < 10000 then n + 1 + k else 10000) ∧ (if n + 1 + k < 10000 then n + 1 + k else 10000) ≤ 10000 := by split <;> omega
    refine mail_of h hz (by omega) n1 (by decide) ?_ ?_ (bds_ints (by intro d hd; left; simp only [List.mem_cons, List.not_mem_nil, or_false] at hd; subst hd; exact ⟨_, rfl, by omega, by omega⟩) (by simp))
    · show isWhole (.int (if n + 1 + k < 10000 then n + 1 + k else 10000)) 2 10000 = true
      exact isWhole_of (by omega) hm.2
    · show (if _ then _ else _) = true
      rw [if_neg (by decide +kernel), if_neg hn0, if_neg (by decide +kernel), if_pos rfl]
      show (true && decide (n < (if n + 1 + k < 10000 then n + 1 + k else 10000))) = true
      rw [decide_eq_true hm.1]; rfl
  refine ⟨_, rfl, _, rfl, _, rfl, ?_⟩
  refine ifB (fun _ => ?_) (fun _ => ?_)
  · refine ⟨.str z, rfl, z1, z4, ?_⟩
    exact mail_of h hz (by decide) (by decide) (by decide) (by decide +kernel) (by decide +kernel) Bds.nil
  refine ⟨.ptr a, rfl, 1000, rfl, by decide, by decide, fun k k0 k1 => ⟨z4, .ptr a, rfl, 4, rfl, by decide, by decide, fun j j0 j1 => ?_⟩⟩
  obtain ⟨d, e1, e2⟩ := atI_mem (ds := [D.int 0, .int 1, .int 999, .int k]) j0 j1
  obtain ⟨tu, rfl, tu0, tu1⟩ : ∃ m : Int, d = .int m ∧ 0 ≤ m ∧ m ≤ 999 := by
    simp only [List.mem_cons, List.not_mem_nil, or_false] at e2
    rcases e2 with rfl | rfl | rfl | rfl <;> exact ⟨_, rfl, by omega, by omega⟩
  refine ⟨j, rfl, .inl ⟨_, .int tu, rfl, e1, z3, .ptr a, rfl, 3, rfl, by decide, by decide, fun j2 j3 j4 => ?_⟩⟩
  obtain ⟨d, e1, e2⟩ := atI_mem (ds := [D.int 0, .int 1, .int 10000]) j3 j4
  obtain ⟨pa, rfl, pa0, pa1⟩ : ∃ m : Int, d = .int m ∧ 0 ≤ m ∧ m ≤ 10000 := by
    simp only [List.mem_cons, List.not_mem_nil, or_false] at e2
    rcases e2 with rfl | rfl | rfl <;> exact ⟨_, rfl, by omega, by omega⟩
  refine ⟨j2, rfl, .inl ⟨_, .int pa, rfl, e1, _, _, rfl, ?_⟩⟩
  refine ⟨.int lo, rfl, z2, .ptr a, rfl, 2, rfl, by decide, by decide, fun j5 j6 j7 => ?_⟩
  obtain ⟨d, e1, e2⟩ := atI_mem (ds := [D.int lo, .int 10000]) j6 j7
  obtain ⟨aw, rfl, aw0, aw1⟩ : ∃ m : Int, d = .int m ∧ 1 ≤ m ∧ m ≤ 10000 := by
    simp only [List.mem_cons, List.not_mem_nil, or_false] at e2
    rcases e2 with rfl | rfl <;> exact ⟨_, rfl, by omega, by omega⟩
  refine ⟨j5, rfl, .inl ⟨_, .int aw, rfl, e1, ?_⟩⟩
  refine ⟨.str z, rfl, .int tu, rfl, .ptr a, rfl, 0, rfl, by decide, by decide, fun to to0 to1 => ?_⟩
  refine ⟨.int aw, rfl, .int pa, rfl, z5, .lst [.bl (t1 == 1), .bl (t2 == 1)], rfl, _, _, rfl, .inl rfl, z7, z4, ?_⟩
  refine mail_of h hz (by decide) (by decide) (by decide) ?_ ?_ (bds_ints ?_ (by simp))
  · show (isWhole (.int tu) 0 999 && isWhole (.int to) 0 9999 && isWhole (.int aw) 1 10000 && isWhole (.int pa) 0 10000 && true && true) = true
    rw [isWhole_of tu0 tu1, isWhole_of to0 to1, isWhole_of aw0 aw1, isWhole_of pa0 pa1]; rfl
  · show (if _ then _ else _) = true
    rw [if_pos (by decide +kernel)]; rfl
  · intro d hd
    have hd : d ∈ [D.int tu, .int to, .int aw, .int pa, .bl (t1 == 1), .bl (t2 == 1)] := hd
    simp only [List.mem_cons, List.not_mem_nil, or_false] at hd
    rcases hd with rfl | rfl | rfl | rfl | rfl | rfl
    · exact .inl ⟨_, rfl, by omega, by omega⟩
    · exact .inl ⟨_, rfl, by omega, by omega⟩
    · exact .inl ⟨_, rfl, by omega, by omega⟩
    · exact .inl ⟨_, rfl, by omega, by omega⟩
    · exact .inr ⟨_, rfl⟩
    · exact .inr ⟨_, rfl⟩
end
end K3

set_option Elab.async false
set_option linter.all false
set_option maxRecDepth 100000
set_option maxHeartbeats 4000000
namespace K3
open PySem PySem.Spec PyProof.Rows L2 Dl TL
section
variable {P : Program} {w : World} {K : PySem.W.Frag} {mg : Str → Option Value} {base : Heap}
/-! ### the law's own: kind by kind -/
def atomic (d : D) : Prop := (∃ b, d = .bl b) ∨ (∃ i, d = .int i) ∨ ∃ x, d = .str x
def okN : Nat → D → Prop
  | 0, _ => False
  | n + 1, d => atomic d ∨ ∃ l, d = .tup l ∧ l.length ≤ 1000 ∧ ∀ x ∈ l, okN n x
def FisN : Nat → DCall
  | 0 => fun _ _ => False
  | n + 1 => fun ds q => ∃ d, ds = [d, d] ∧ okN (n + 1) d ∧ q (.bl true)
theorem vAll_true {i : Nat} {w : TDI} {te : TDE} {ρ : DE} {q : D → Prop} (ds : List D) (hw : ∀ Q : List D → Prop, Q ds → w ρ Q) (hz : ds.length ≤ 1000000) (hel : ∀ d ∈ ds, te (ρ.set i (some d)) fun e => e = .bl true) (h : q (.bl true)) : vCall allC (vCons (vLc i w te) vNil) ρ q := by
  show vLc i w te ρ fun d => allC [d] q
  refine vLc_map ds (fun _ => .bl true) hw hz hel ?_
  have e : (ds.map fun _ => D.bl true) = (ds.map fun _ => true).map .bl := by rw [List.map_map]; rfl
  rw [e]
  refine allC_of ?_
  have e2 : ((ds.map fun _ => true).all id) = true := List.all_eq_true.mpr fun x hx => by
    obtain ⟨_, _, rfl⟩ := List.mem_map.mp hx
    rfl
  rw [e2]
  exact h
theorem isaF {a b : String} (h : ¬ a = b) (h2 : ¬ (a = "bool" ∧ b = "int")) : isaT a b = false := by
  unfold isaT
  rw [decide_eq_false h, Bool.false_or]
  by_cases e : a = "bool"
  · rw [decide_eq_true e, decide_eq_false (fun q => h2 ⟨e, q⟩)]; rfl
  · rw [decide_eq_false e]; rfl
theorem sc_law_is : FnScope ["found", "due_here", "k"] ["found", "due_here"] (defScope s_law_is) := ⟨rfl, rfl, rfl, by decide +kernel, rfl, by decide +kernel, by decide +kernel⟩
theorem ok_law_is {n : Nat} {R : Res} {f : Addr} {fd : FuncData} (F : Fun K "_law_is" "_law_is" s_law_is f fd) (T : Txt K mg) (D_law_is : DefP P w K mg base "_law_is" (n + 1) (FisN n)) : FnG P w K mg base (n + 2) f fd ["found", "due_here"] (spD K R (FisN (n + 1))) := by
  refine FunD.ok F sc_law_is (fun ds q ⟨_, e, _⟩ => by rw [e]; rfl) (fun cdv A outer s H E ds q hr hgd h => ?_)
  obtain ⟨d, rfl, hd, h⟩ := h
  refine ⟨_, (ss_cons (s_if (t_val (d_callB cd_isi call_isi T.n_isinstance (by decide +kernel) (a_cons (dv 1) (a_cons (d_ty (n := "tuple") T.n_tuple (by decide +kernel)) a_nil)))) (ss_cons (s_if (PW.pt (t_or (t_not (t_val (d_callB cd_isi call_isi T.n_isinstance (by decide +kernel) (a_cons (dv 0) (a_cons (d_ty (n := "tuple") T.n_tuple (by decide +kernel)) a_nil))))) (t_or1 (t_cmp opd_ne opr_ne (d_callB cd_len call_len T.n_len (by decide +kernel) (a_cons (dv 0) a_nil)) (d_callB cd_len call_len T.n_len (by decide +kernel) (a_cons (dv 1) a_nil)))))) (ss_one (s_ret d_bl)) ss_nil) (ss_one (s_ret (d_callB cd_all (cr_all rfl) T.n_all (by decide +kernel) (a_cons (d_lc (i := 2) rfl sc_law_is.nd (i_range T.n_range (a_cons (d_callB cd_len call_len T.n_len (by decide +kernel) (a_cons (dv 1) a_nil)) a_nil)) (blkOk_by (own := [("k", 2)]) (N := ["found", "due_here", "k"]) (sc := defScope s_law_is) (by decide +kernel)) (fun _ _ _ _ _ => pg_name (i := 2) sc_law_is.nd rfl (Or.inl rfl)) (fun _ _ _ _ _ A => (d_call (D_law_is _) (hr.mono (by omega)) hgd (a_cons (d_ix (dv 0) (dv 2)) (a_cons (d_ix (dv 1) (dv 2)) a_nil))))) a_nil))))) ss_nil) (ss_cons (s_if (PW.pt (t_or (t_val (d_callB cd_isi call_isi T.n_isinstance (by decide +kernel) (a_cons (dv 1) (a_cons (d_ty (n := "bool") T.n_bool (by decide +kernel)) a_nil)))) (t_or1 (t_val (d_callB cd_isi call_isi T.n_isinstance (by decide +kernel) (a_cons (dv 0) (a_cons (d_ty (n := "bool") T.n_bool (by decide +kernel)) a_nil))))))) (ss_one (s_ret (d_and (d_callB cd_isi call_isi T.n_isinstance (by decide +kernel) (a_cons (dv 1) (a_cons (d_ty (n := "bool") T.n_bool (by decide +kernel)) a_nil))) (d_and (d_callB cd_isi call_isi T.n_isinstance (by decide +kernel) (a_cons (dv 0) (a_cons (d_ty (n := "bool") T.n_bool (by decide +kernel)) a_nil))) (d_one (d_cmp opd_eq (opr_eq hr.units0) (dv 0) (dv 1))))))) ss_nil) (ss_cons (s_if (t_val (d_callB cd_isi call_isi T.n_isinstance (by decide +kernel) (a_cons (dv 1) (a_cons (d_ty (n := "int") T.n_int (by decide +kernel)) a_nil)))) (ss_one (s_ret (d_and (d_callB cd_isi call_isi T.n_isinstance (by decide +kernel) (a_cons (dv 0) (a_cons (d_ty (n := "int") T.n_int (by decide +kernel)) a_nil))) (d_one (d_cmp opd_eq (opr_eq hr.units0) (dv 0) (dv 1)))))) ss_nil) (ss_cons (s_if (t_cmp opd_isN op_isN (dv 1) d_non) (ss_one (s_ret (d_cmp opd_isN op_isN (dv 0) d_non))) ss_nil) (ss_one (s_ret (d_and (d_callB cd_isi call_isi T.n_isinstance (by decide +kernel) (a_cons (dv 1) (a_cons (d_ty (n := "str") T.n_str (by decide +kernel)) a_nil))) (d_and (d_callB cd_isi call_isi T.n_isinstance (by decide +kernel) (a_cons (dv 0) (a_cons (d_ty (n := "str") T.n_str (by decide +kernel)) a_nil))) (d_one (d_cmp opd_eq (opr_eq hr.units0) (dv 0) (dv 1))))))))))), ?_⟩
  rcases hd with hd | ⟨l, rfl, hl, hx⟩
  · rcases hd with ⟨b, rfl⟩ | ⟨i, rfl⟩ | ⟨x, rfl⟩
    · refine ⟨.bl b, rfl, .bl b, "tuple", rfl, rfl, by decide, _, rfl, ifF (show isaT "bool" "tuple" = false by decide +kernel) ?_⟩
      refine ⟨.bl b, rfl, .bl b, "bool", rfl, rfl, by decide, _, rfl, ifT rfl ?_⟩
      refine ⟨.bl b, rfl, .bl b, "bool", rfl, rfl, by decide, _, rfl, ifT rfl ?_⟩
      refine ⟨.bl b, rfl, .bl b, "bool", rfl, rfl, by decide, _, rfl, ifT rfl ?_⟩
      exact ⟨.bl b, rfl, .bl b, rfl, _, rfl, qb h (beq_self_eq_true b)⟩
    · refine ⟨.int i, rfl, .int i, "tuple", rfl, rfl, by decide, _, rfl, ifF (show isaT "int" "tuple" = false by decide +kernel) ?_⟩
      refine ⟨.int i, rfl, .int i, "bool", rfl, rfl, by decide, _, rfl, ifF (show isaT "int" "bool" = false by decide +kernel) ?_⟩
      refine ⟨.int i, rfl, .int i, "bool", rfl, rfl, by decide, _, rfl, ifF (show isaT "int" "bool" = false by decide +kernel) ?_⟩
      refine ⟨.int i, rfl, .int i, "int", rfl, rfl, by decide, _, rfl, ifT rfl ?_⟩
      refine ⟨.int i, rfl, .int i, "int", rfl, rfl, by decide, _, rfl, ifT rfl ?_⟩
      exact ⟨.int i, rfl, .int i, rfl, _, rfl, qb h (beq_self_eq_true i)⟩
    · refine ⟨.str x, rfl, .str x, "tuple", rfl, rfl, by decide, _, rfl, ifF (show isaT "str" "tuple" = false by decide +kernel) ?_⟩
      refine ⟨.str x, rfl, .str x, "bool", rfl, rfl, by decide, _, rfl, ifF (show isaT "str" "bool" = false by decide +kernel) ?_⟩
      refine ⟨.str x, rfl, .str x, "bool", rfl, rfl, by decide, _, rfl, ifF (show isaT "str" "bool" = false by decide +kernel) ?_⟩
      refine ⟨.str x, rfl, .str x, "int", rfl, rfl, by decide, _, rfl, ifF (show isaT "str" "int" = false by decide +kernel) ?_⟩
      refine ⟨.str x, rfl, rfl, _, rfl, iteF ?_⟩
      refine ⟨.str x, rfl, .str x, "str", rfl, rfl, by decide, _, rfl, ifT rfl ?_⟩
      refine ⟨.str x, rfl, .str x, "str", rfl, rfl, by decide, _, rfl, ifT rfl ?_⟩
      exact ⟨.str x, rfl, .str x, rfl, _, rfl, qb h (beq_self_eq_true x)⟩
  · refine ⟨.tup l, rfl, .tup l, "tuple", rfl, rfl, by decide, _, rfl, ifT rfl ?_⟩
    refine ⟨.tup l, rfl, .tup l, "tuple", rfl, rfl, by decide, _, rfl, ifF rfl ?_⟩
    refine ⟨.tup l, rfl, .tup l, rfl, .inl ⟨l, rfl, .tup l, rfl, .tup l, rfl, .inl ⟨l, rfl, _, rfl, _, rfl, ifF (by simp) ?_⟩⟩⟩
    dsimp only [sNil, sRet]
    refine vAll_true ((List.range l.length).map fun (k : Nat) => .int (k : Int)) (fun Q hQ => ?_) (by rw [List.length_map, List.length_range]; omega) (fun d hd => ?_) h
    · refine ⟨.tup l, rfl, .tup l, rfl, .inl ⟨l, rfl, _, rfl, by omega, by omega, ?_⟩⟩
      have : ((l.length : Int)).toNat = l.length := by omega
      rw [this]
      exact hQ
    · obtain ⟨k, hk, rfl⟩ := List.mem_map.mp hd
      have hk' := List.mem_range.mp hk
      have e : l[k]? = some l[k] := List.getElem?_eq_getElem hk'
      cases n with
      | zero => exact (hx l[k] (List.getElem_mem hk')).elim
      | succ n =>
        exact ⟨.tup l, rfl, .int k, rfl, k, rfl, .inl ⟨l, l[k], rfl, atI_nat e, .tup l, rfl, .int k, rfl, k, rfl, .inl ⟨l, l[k], rfl, atI_nat e, l[k], rfl, hx l[k] (List.getElem_mem hk'), rfl⟩⟩⟩
theorem letter_okN {d : D} (h : isLetter d = true) : okN 3 d := by
  obtain ⟨s, n, b, z, ps, rfl, L⟩ := letter_is h
  have hb := body_showable L.body
  have at1 : ∀ {m : Nat} {x : D}, atomic x → okN (m + 1) x := fun h => .inl h
  refine .inr ⟨_, rfl, by simp, fun x hx => ?_⟩
  simp only [List.mem_cons, List.not_mem_nil, or_false] at hx
  rcases hx with rfl | rfl | rfl | rfl
  · exact at1 (.inr (.inr ⟨_, rfl⟩))
  · exact at1 (.inr (.inl ⟨_, rfl⟩))
  · exact at1 (.inl ⟨_, rfl⟩)
  · refine .inr ⟨_, rfl, by rw [List.length_cons]; omega, fun x hx => ?_⟩
    rcases List.mem_cons.mp hx with rfl | hx
    · exact at1 (.inr (.inr ⟨_, rfl⟩))
    · refine at1 ?_
      rcases (hb.2 x hx).1 with q | ⟨i, q, _⟩ | q
      · exact .inl q
      · exact .inr (.inl ⟨i, q⟩)
      · exact .inr (.inr q)
/-! ### the law's own texts -/
theorem sc_law_shown : FnScope ["part"] ["part"] (defScope s_law_shown) := ⟨rfl, rfl, rfl, by decide +kernel, rfl, by decide +kernel, by decide +kernel⟩
theorem ok_law_shown {R : Res} {f : Addr} {fd : FuncData} (F : Fun K "_law_shown" "_law_shown" s_law_shown f fd) (T : Txt K mg) : FnG P w K mg base 1 f fd ["part"] (spD K R FshowP) := by
  refine FunD.ok F sc_law_shown (fun ds q ⟨d, e, _⟩ => by rw [e]; rfl) (fun cdv A outer s H E ds q hr hgd h => ?_)
  obtain ⟨d, rfl, hd, h⟩ := h
  refine ⟨_, (ss_cons (s_if (t_val (d_callB cd_isi call_isi T.n_isinstance (by decide +kernel) (a_cons (dv 0) (a_cons (d_ty (n := "bool") T.n_bool (by decide +kernel)) a_nil)))) (ss_one (s_ret (d_ix (d_lst (a_cons d_str (a_cons d_str a_nil))) (d_callTy cd_int call_int1 T.n_int (by decide +kernel) (a_cons (dv 0) a_nil))))) ss_nil) (ss_one (s_ret (d_callTy cd_strA (CallR.or call_str_int SkE.call_str_str) T.n_str (by decide +kernel) (a_cons (dv 0) a_nil))))), ?_⟩
  rcases hd with ⟨b, rfl⟩ | ⟨i, rfl, hi⟩ | ⟨x, rfl⟩
  · refine ⟨.bl b, rfl, .bl b, "bool", rfl, rfl, by decide, _, rfl, ifT rfl ⟨zz (by decide : 2 ≤ 1000), .bl b, rfl, .inr ⟨b, rfl, _, rfl, ?_⟩⟩⟩
    cases b
    · exact .inl ⟨_, .str "no", rfl, atI_nat (j := 0) rfl, h⟩
    · exact .inl ⟨_, .str "yes", rfl, atI_nat (j := 1) rfl, h⟩
  · exact ⟨.int i, rfl, .int i, "bool", rfl, rfl, by decide, _, rfl, ifF (show isaT "int" "bool" = false by decide +kernel) ⟨.int i, rfl, .inl ⟨i, rfl, hi, h⟩⟩⟩
  · exact ⟨.str x, rfl, .str x, "bool", rfl, rfl, by decide, _, rfl, ifF (show isaT "str" "bool" = false by decide +kernel) ⟨.str x, rfl, .inr ⟨x, rfl, h⟩⟩⟩
theorem sc_law_total : FnScope ["shown", "signs", "found", "k", "sign"] ["shown"] (defScope s_law_total) := ⟨rfl, rfl, rfl, by decide +kernel, rfl, by decide +kernel, by decide +kernel⟩
theorem ok_law_total {R : Res} {f : Addr} {fd : FuncData} (F : Fun K "_law_total" "_law_total" s_law_total f fd) (T : Txt K mg) : FnG P w K mg base 1 f fd ["shown"] (spD K R (FtextB fun x => .int (sumS x))) := by
  refine FunD.ok F sc_law_total (fun ds q ⟨d, e, _⟩ => by rw [e]; rfl) (fun cdv A outer s H E ds q hr hgd h => ?_)
  obtain ⟨x, rfl, hz, h⟩ := h
  refine ⟨_, (ss_cons (s_unp (is := [1, 2]) rfl (pgs_cons (pg_name (i := 1) sc_law_total.nd rfl (Or.inl rfl)) (pgs_cons (pg_name (i := 2) sc_law_total.nd rfl (Or.inl rfl)) pgs_nil)) (d_tup (a_cons d_str (a_cons d_int a_nil)))) (ss_cons (s_forE (i := 3) (j := 4) PassesOwn.never rfl (pi_enumS T.n_enumerate (dv 0)) (pgs_cons (pg_name (i := 3) sc_law_total.nd rfl (Or.inl rfl)) (pgs_cons (pg_name (i := 4) sc_law_total.nd rfl (Or.inl rfl)) pgs_nil)) (ss_one (s_set (i := 2) sc_law_total.nd (d_op opd_add opr_add (dv 2) (d_op opd_int op_mul (d_op opd_add opr_add (d_mtS PySem.F.slot_str_find PySem.F.type_str_find mt_find op_find (dv 1) (dv 4)) d_int) (d_op opd_add opr_add (dv 3) d_int)))))) (ss_one (s_ret (d_op opd_int op_mod (dv 2) d_int))))), ?_⟩
  refine ⟨zz (by decide : 2 ≤ 1000), _, rfl, rfl, ?_⟩
  refine ⟨.str x, rfl, x, rfl, fun m ρ => ∃ (a : Int) (r0 r3 r4 : Option D), ρ = [r0, some (.str SIGNS), some (.int a), r3, r4] ∧ m ≤ x.cps.toList.length ∧ sumL m a (x.cps.toList.drop m) = sumL 0 0 x.cps.toList, ?_, ?_, ?_⟩
  · exact ⟨0, _, _, _, rfl, Nat.zero_le _, rfl⟩
  · rintro m c ρ hc ⟨a, r0, r3, r4, rfl, hm, ha⟩
    have hf := find_one c
    refine ⟨.int a, rfl, .str SIGNS, rfl, SIGNS, rfl, .str ⟨#[c]⟩, rfl, ⟨#[c]⟩, rfl, .int (0 + (m : Int)), rfl, _, _, rfl, rfl, .inl ⟨by omega, by omega⟩, ?_⟩
    refine ⟨_, _, _, _, rfl, ?_, ?_⟩
    · have := (List.getElem?_eq_some_iff.mp hc).1
      omega
    · rw [← ha, sum_step hc]
      have e : (0 + (m : Int) + 1) = 1 + (m : Int) := by omega
      rw [e]
  · rintro ρ ⟨a, r0, r3, r4, rfl, hm, ha⟩
    rw [List.drop_length] at ha
    have e : sumS x = a % 997 := by
      unfold sumS
      rw [← ha]; rfl
    have h' : q (.int (sumS x)) := h
    rw [e] at h'
    exact ⟨.int a, rfl, _, _, rfl, rfl, (show (0 : Int) < 997 by decide), h'⟩
theorem law_front (a : Str) : a ++ "|length=" ++ num a.length = frontS a := ext_tl (by
  have e : tl ("|length=" : Str) = tl ("|" : Str) ++ tl ("length=" : Str) := by decide +kernel
  unfold frontS
  simp only [tl_append, tl_empty, List.nil_append, List.append_assoc, e])
theorem law_close (a : Str) : frontS a ++ "|sum=" ++ num (sumS (frontS a)) = closeS a := ext_tl (by
  have e : tl ("|sum=" : Str) = tl ("|" : Str) ++ tl ("sum=" : Str) := by decide +kernel
  unfold closeS
  simp only [tl_append, tl_empty, List.nil_append, List.append_assoc, e])
theorem sc_law_closed : FnScope ["body", "shown"] ["body"] (defScope s_law_closed) := ⟨rfl, rfl, rfl, by decide +kernel, rfl, by decide +kernel, by decide +kernel⟩
theorem ok_law_closed {R : Res} {f : Addr} {fd : FuncData} (F : Fun K "_law_closed" "_law_closed" s_law_closed f fd) (T : Txt K mg) (D_law_total : DefP P w K mg base "_law_total" 1 (FtextB fun x => .int (sumS x))) : FnG P w K mg base 2 f fd ["body"] (spD K R (fun ds q => ∃ x, ds = [.str x] ∧ x.length ≤ 90 ∧ q (.str (closeS x)))) := by
  refine FunD.ok F sc_law_closed (fun ds q ⟨d, e, _⟩ => by rw [e]; rfl) (fun cdv A outer s H E ds q hr hgd h => ?_)
  obtain ⟨a, rfl, ha, h⟩ := h
  refine ⟨_, (ss_cons (s_set (i := 1) sc_law_closed.nd (d_op opd_add opr_add (d_op opd_add opr_add (dv 0) d_str) (d_callTy cd_strA (CallR.or call_str_int SkE.call_str_str) T.n_str (by decide +kernel) (a_cons (d_callB cd_len call_len T.n_len (by decide +kernel) (a_cons (dv 0) a_nil)) a_nil)))) (ss_one (s_ret (d_op opd_add opr_add (d_op opd_add opr_add (dv 1) d_str) (d_callTy cd_strA (CallR.or call_str_int SkE.call_str_str) T.n_str (by decide +kernel) (a_cons (d_call (D_law_total _) (hr.mono (by omega)) hgd (a_cons (dv 1) a_nil)) a_nil)))))), ?_⟩
  have hf := front_len ha
  have h2 := num_len (i := (a.length : Int)) (by omega) (by omega)
  have hs := sum_mod (frontS a)
  have h3 := num_len hs.1 (by omega)
  have l5 : ("|length=" : Str).length = 8 := by decide +kernel
  have l6 : ("|sum=" : Str).length = 5 := by decide +kernel
  have zq : ∀ {n : Nat}, n ≤ 1000 → n ≤ sizeLine := fun h => zz h
  refine ⟨.str a, rfl, zq (by rw [l5]; omega), .str a, rfl, .str a, rfl, .inr ⟨a, rfl, zq (by omega), .inl ⟨_, rfl, log_small (by omega), zq (by show (a ++ "|length=").length + (num a.length).length ≤ 1000; simp only [len_append, l5]; omega), ?_⟩⟩⟩
  rw [show a ++ ("|length=" : Str) ++ Str.ofString (toString ((a.length : Nat) : Int)) = frontS a from law_front a]
  refine ⟨.str (frontS a), rfl, zq (by rw [l6]; omega), .str (frontS a), rfl, frontS a, rfl, by omega, .inl ⟨_, rfl, log_small (by omega), zq (by show (frontS a ++ "|sum=").length + (num (sumS (frontS a))).length ≤ 1000; simp only [len_append, l6]; omega), ?_⟩⟩
  rw [show frontS a ++ ("|sum=" : Str) ++ Str.ofString (toString (sumS (frontS a))) = closeS a from law_close a]
  exact h
theorem law_ahead (s : Str) (n : Int) (b : Bool) (z j : Str) : Txt.join "|" ["from=" ++ s, "number=" ++ num n, "again=" ++ yn b] ++ "|" ++ z ++ "=" ++ j = aheadS s n b z j := by
  refine ext_tl ?_
  have e1 : tl ("|number=" : Str) = tl ("|" : Str) ++ tl ("number=" : Str) := by decide +kernel
  have e2 : tl ("|again=" : Str) = tl ("|" : Str) ++ tl ("again=" : Str) := by decide +kernel
  unfold aheadS
  simp only [tl_append, join_tl, e1, e2, tl_empty, List.map_cons, List.map_nil, joinL, List.nil_append, List.append_assoc]
theorem sc_law_written : FnScope ["mail", "words", "body", "part"] ["mail"] (defScope s_law_written) := ⟨rfl, rfl, rfl, by decide +kernel, rfl, by decide +kernel, by decide +kernel⟩
theorem ok_law_written {R : Res} {f : Addr} {fd : FuncData} (F : Fun K "_law_written" "_law_written" s_law_written f fd) (T : Txt K mg) (D_law_shown : DefP P w K mg base "_law_shown" 1 FshowP) (D_law_closed : DefP P w K mg base "_law_closed" 2 (fun ds q => ∃ x, ds = [.str x] ∧ x.length ≤ 90 ∧ q (.str (closeS x)))) : FnG P w K mg base 3 f fd ["mail"] (spD K R (FletterP fun d => .str (closeS (aheadD d)))) := by
  refine FunD.ok F sc_law_written (fun ds q ⟨d, e, _⟩ => by rw [e]; rfl) (fun cdv A outer s H E ds q hr hgd h => ?_)
  obtain ⟨d, rfl, hd, hl, h⟩ := h
  refine ⟨_, (ss_cons (s_set (i := 1) sc_law_written.nd (d_join d_str (d_lc (i := 3) rfl sc_law_written.nd (i_tup (d_slice (d_ix (dv 0) d_int) (o_some d_int) o_none)) (blkOk_by (own := [("part", 3)]) (N := ["mail", "words", "body", "part"]) (sc := defScope s_law_written) (by decide +kernel)) (fun _ _ _ _ _ => pg_name (i := 3) sc_law_written.nd rfl (Or.inl rfl)) (fun _ _ _ _ _ A => (d_call (D_law_shown _) (hr.mono (by omega)) hgd (a_cons (dv 3) a_nil)))))) (ss_cons (s_set (i := 2) sc_law_written.nd (d_join d_str (d_lst (a_cons (d_op opd_add opr_add d_str (d_ix (dv 0) d_int)) (a_cons (d_op opd_add opr_add d_str (d_callTy cd_strA (CallR.or call_str_int SkE.call_str_str) T.n_str (by decide +kernel) (a_cons (d_ix (dv 0) d_int) a_nil))) (a_cons (d_op opd_add opr_add d_str (d_call (D_law_shown _) (hr.mono (by omega)) hgd (a_cons (d_ix (dv 0) d_int) a_nil))) a_nil)))))) (ss_one (s_ret (d_call (D_law_closed _) (hr.mono (by omega)) hgd (a_cons (d_op opd_add opr_add (d_op opd_add opr_add (d_op opd_add opr_add (d_op opd_add opr_add (dv 2) d_str) (d_ix (d_ix (dv 0) d_int) d_int)) d_str) (dv 1)) a_nil)))))), ?_⟩
  obtain ⟨s, n, b, z, ps, rfl, L⟩ := letter_is hl
  have hb := body_showable L.body
  have hn : n.natAbs.log2 < 1920 := log_small (by have := L.n0; have := L.n1; omega)
  have hal : (aheadS s n b z (shownPs ps)).length ≤ 90 := ahead_len L
  have h1 := (side_free L.s).1
  have h2 := num_len L.n0 (i := n) (by have := L.n1; omega)
  have h3 : (yn b).length ≤ 3 := by cases b <;> decide +kernel
  have h4 := (word_sign L.body).1
  have h5 := shown_len L.body
  have l1 : ("from=" : Str).length = 5 := by decide +kernel
  have l2 : ("number=" : Str).length = 7 := by decide +kernel
  have l3 : ("again=" : Str).length = 6 := by decide +kernel
  have l4 : ("|" : Str).length = 1 := by decide +kernel
  have l5 : ("=" : Str).length = 1 := by decide +kernel
  have zq : ∀ {n : Nat}, n ≤ 1000 → n ≤ sizeLine := fun h => zz h
  have ec : Dl.cutD (D.str z :: ps) (some 1) none = ps := cutD_from (D.str z :: ps) 1
  refine ⟨",", rfl, vLc_map ps (fun d => .str (showP d)) (fun Q hQ => ⟨_, rfl, 3, rfl, .inl ⟨_, .tup (.str z :: ps), rfl, rfl, 1, rfl, ps, congrArg D.tup ec, hQ⟩⟩) (by omega) (fun d hd => ⟨d, rfl, d, rfl, (hb.2 d hd).1, rfl⟩) ?_⟩
  refine ⟨ps.map showP, .inr (by rw [List.map_map]; rfl), join_room (by rw [List.length_map]; exact hb.1) (fun x hx => ?_) (by decide +kernel), ?_⟩
  · obtain ⟨d, hd, rfl⟩ := List.mem_map.mp hx
    exact (hb.2 d hd).2
  refine ⟨"|", rfl, _, rfl, 0, rfl, .inl ⟨_, .str s, rfl, atI_nat (j := 0) rfl, zq (by omega), _, rfl, 1, rfl, .inl ⟨_, .int n, rfl, rfl, .inl ⟨n, rfl, hn, zq (by show _ + (num n).length ≤ 1000; omega), _, rfl, 2, rfl, .inl ⟨_, .bl b, rfl, rfl, .bl b, rfl, .inl ⟨b, rfl⟩, zq (by show _ + (yn b).length ≤ 1000; omega), zz (by decide : 3 ≤ 1000), ?_⟩⟩⟩⟩⟩
  refine ⟨["from=" ++ s, "number=" ++ num n, "again=" ++ yn b], .inl rfl, join_room (by simp) (fun x hx => ?_) (by decide +kernel), ?_⟩
  · simp only [List.mem_cons, List.not_mem_nil, or_false] at hx
    rcases hx with rfl | rfl | rfl
    · rw [len_append]; omega
    · rw [len_append]; omega
    · rw [len_append]; omega
  have hj : (Txt.join "|" ["from=" ++ s, "number=" ++ num n, "again=" ++ yn b]).length ≤ 100 := by
    have := congrArg Str.length (law_ahead s n b z (shownPs ps))
    simp only [len_append] at this
    omega
  have e5 : ("=" : Str).length = 1 := l5
  refine ⟨.str (Txt.join "|" ["from=" ++ s, "number=" ++ num n, "again=" ++ yn b]), rfl, zq (by rw [l4]; omega), _, rfl, 3, rfl, .inl ⟨_, .tup (.str z :: ps), rfl, rfl, 0, rfl, .inl ⟨_, .str z, rfl, atI_nat (j := 0) rfl, zq (by rw [len_append, l4]; omega), zq (by simp only [len_append, l4, l5]; omega), .str (shownPs ps), rfl, zq (by simp only [len_append, l4, l5]; omega), ?_⟩⟩⟩
  rw [law_ahead]
  exact ⟨_, rfl, hal, h⟩
theorem sc_law_both_ways : FnScope ["mail", "rows", "told"] ["mail"] (defScope s_law_both_ways) := ⟨rfl, rfl, rfl, by decide +kernel, rfl, by decide +kernel, by decide +kernel⟩
theorem ok_law_both_ways {R : Res} {f : Addr} {fd : FuncData} (F : Fun K "_law_both_ways" "_law_both_ways" s_law_both_ways f fd) (T : Txt K mg) (D_law_written : DefP P w K mg base "_law_written" 3 (FletterP fun d => .str (closeS (aheadD d)))) (D_show_letter : ∀ R : Res, DefK P w K mg base "show_letter" "letter" 6 (spD K R (FletterP fun d => .str (closeS (aheadD d)))))
    (D_read_letter : ∀ R : Res, DefK P w K mg base "read_letter" "text" 6 (spD K R (fun ds q => ∃ d, ds = [.str (closeS (aheadD d))] ∧ okD d ∧ isLetter d = true ∧ q d))) (D_law_is : DefP P w K mg base "_law_is" 4 (FisN 3)) : FnG P w K mg base 7 f fd ["mail"] (spD K R (FletterP fun _ => .bl true)) := by
  refine FunD.ok F sc_law_both_ways (fun ds q ⟨d, e, _⟩ => by rw [e]; rfl) (fun cdv A outer s H E ds q hr hgd h => ?_)
  obtain ⟨d, rfl, hd, hl, h⟩ := h
  refine ⟨_, (ss_cons (s_set (i := 1) sc_law_both_ways.nd (d_call (D_law_written _) (hr.mono (by omega)) hgd (a_cons (dv 0) a_nil))) (ss_cons (s_for (i := 2) sc_law_both_ways.nd PassesOwn.never rfl (i_lst (d_lst (a_cons (d_call (D_show_letter _).d (hr.mono (by omega)) hgd (a_cons (dv 0) a_nil)) (a_cons (d_callK (D_show_letter _) (hr.mono (by omega)) hgd (dv 0)) a_nil)))) (ss_one (s_if (PW.pt (t_or (t_not (t_val (d_callB cd_isi call_isi T.n_isinstance (by decide +kernel) (a_cons (dv 2) (a_cons (d_ty (n := "str") T.n_str (by decide +kernel)) a_nil))))) (t_or1 (t_cmp opd_ne opr_ne (dv 2) (dv 1))))) (ss_one (s_ret d_bl)) ss_nil))) (ss_one (s_ret (d_and (d_call (D_law_is _) (hr.mono (by omega)) hgd (a_cons (d_call (D_read_letter _).d (hr.mono (by omega)) hgd (a_cons (dv 1) a_nil)) (a_cons (dv 0) a_nil))) (d_one (d_call (D_law_is _) (hr.mono (by omega)) hgd (a_cons (d_callK (D_read_letter _) (hr.mono (by omega)) hgd (d_call (D_show_letter _).d (hr.mono (by omega)) hgd (a_cons (dv 0) a_nil))) (a_cons (dv 0) a_nil))))))))), ?_⟩
  refine ⟨d, rfl, d, rfl, hd, hl, ?_⟩
  refine ⟨d, rfl, d, rfl, hd, hl, d, rfl, d, rfl, hd, hl, zz (by decide : 2 ≤ 1000), _, .inl rfl, ?_⟩
  refine ⟨fun _ ρ => ∃ r, ρ = [some d, some (.str (closeS (aheadD d))), r], ⟨_, rfl⟩, ?_, ?_⟩
  · rintro j e ρ hj ⟨r, rfl⟩
    have he : e = .str (closeS (aheadD d)) := by
      have := List.mem_of_getElem? hj
      simpa using this
    subst he
    refine ⟨_, rfl, .str (closeS (aheadD d)), "str", rfl, rfl, by decide, _, rfl, ?_⟩
    refine ifF rfl ⟨_, rfl, _, rfl, _, rfl, _, rfl, ifF (by simp) ⟨_, rfl⟩⟩
  · rintro ρ ⟨r, rfl⟩
    refine ⟨_, rfl, d, rfl, hd, hl, d, rfl, d, rfl, letter_okN hl, _, rfl, iteT ?_⟩
    exact ⟨d, rfl, d, rfl, hd, hl, d, rfl, hd, hl, d, rfl, d, rfl, letter_okN hl, h⟩
end
end K3

set_option Elab.async false
set_option linter.all false
set_option maxRecDepth 100000
set_option maxHeartbeats 4000000
namespace K3
open PySem PySem.Spec PyProof.Rows L2 Dl TL
section
variable {P : Program} {w : World} {K : PySem.W.Frag} {mg : Str → Option Value} {base : Heap}
theorem pick_ok {L : List D} {D0 : D} {k : Int} {q : D → Prop} (e : itemsD D0 = some L) (k0 : 0 ≤ k) (k1 : k < L.length) (hq : ∀ d ∈ L, q d) : ixD D0 (.int k) q := by
  obtain ⟨d, e1, e2⟩ := atI_mem k0 k1
  exact ⟨k, rfl, .inl ⟨L, d, e, e1, hq d e2⟩⟩
theorem strOk_asc {x : Str} (h : x.cps.toList.all (fun c => decide (c < 128)) = true) : PyData.strOk x = true := by
  unfold PyData.strOk
  rw [← Array.all_toList, List.all_eq_true]
  intro c hc
  have := of_decide_eq_true (List.all_eq_true.mp h c hc)
  exact decide_eq_true (by omega)
theorem signs_asc : ∀ c ∈ signs.cps.toList, c < 128 := by decide +kernel
theorem text_ok {t : Str} (h : isText (.str t) = true) : PyData.strOk t = true := by
  have h' : (decide (1 ≤ t.length) && decide (t.length ≤ 20) && t.cps.toList.all (fun c => decide (c ∈ signs.cps.toList))) = true := h
  simp only [Bool.and_eq_true] at h'
  exact strOk_asc (List.all_eq_true.mpr fun c hc => decide_eq_true (signs_asc c (of_decide_eq_true (List.all_eq_true.mp h'.2 c hc))))
theorem side_ok {s : Str} (h : s = "a" ∨ s = "b") : PyData.strOk s = true := by rcases h with rfl | rfl <;> decide +kernel
theorem word_ok {z : Str} {ps : List D} (h : BodyIs z ps) : PyData.strOk z = true := by
  have key : ∀ z ∈ (["word", "bye", "beat", "test", "ask", "fill", "hello"] : List Str), PyData.strOk z = true := by decide +kernel
  refine key z ?_
  cases h with
  | word h => simp
  | bye => simp
  | nums hz _ _ _ _ => 
    simp only [nums, List.mem_cons, List.not_mem_nil, or_false] at hz
    simp only [List.mem_cons, List.not_mem_nil, or_false]
    rcases hz with q | q | q | q | q <;> simp [q]
theorem simple_nod {p : D} (h : simple p) : p.nod = true ∧ p.py.canLay0 = true ∧ p.py.depth = 0 := by
  rcases h with ⟨i, rfl, _⟩ | ⟨b, rfl⟩ <;> exact ⟨by simp only [D.nod], by simp only [D.py, PyData.canLay0], by simp only [D.py, PyData.depth]⟩
theorem simples_nod : ∀ {ps : List D}, (∀ p ∈ ps, simple p) → D.nods ps = true ∧ PyData.canLayAll0 (D.pys ps) = true ∧ PyData.depthAll (D.pys ps) = 0
  | [], _ => ⟨by simp only [D.nods], by simp only [D.pys, PyData.canLayAll0], by simp only [D.pys, PyData.depthAll]⟩
  | p :: ps, h => by
    obtain ⟨a1, a2, a3⟩ := simple_nod (h p (by simp))
    obtain ⟨b1, b2, b3⟩ := simples_nod (ps := ps) fun q m => h q (List.mem_cons_of_mem _ m)
    refine ⟨by simp only [D.nods, a1, b1, Bool.and_self], by simp only [D.pys, PyData.canLayAll0, a2, b2, Bool.and_self], by simp only [D.pys, PyData.depthAll, a3, b3, Nat.max_self]⟩
theorem body_nod {z : Str} {ps : List D} (B : BodyIs z ps) : D.nods ps = true ∧ PyData.canLayAll0 (D.pys ps) = true ∧ PyData.depthAll (D.pys ps) = 0 := by
  cases B with
  | word h => exact ⟨by simp only [D.nods, D.nod, Bool.and_self], by simp only [D.pys, D.py, PyData.canLayAll0, PyData.canLay0, text_ok h, Bool.and_self], by simp only [D.pys, D.py, PyData.depthAll, PyData.depth, Nat.max_self]⟩
  | bye => exact simples_nod (fun p hp => by cases hp)
  | nums hz h0 h6 h hk => exact simples_nod h
theorem letter_nod {d : D} (h : isLetter d = true) : d.nod = true ∧ SeqAt.shaped d.py = true := by
  obtain ⟨s, n, b, z, ps, rfl, L⟩ := letter_is h
  obtain ⟨a1, a2, a3⟩ := body_nod L.body
  refine ⟨by simp only [D.nod, D.nods, a1, Bool.and_self], ?_⟩
  unfold SeqAt.shaped
  rw [Bool.and_eq_true, decide_eq_true_eq]
  refine ⟨by simp only [D.py, D.pys, PyData.canLay0, PyData.canLayAll0, a2, side_ok L.s, word_ok L.body, Bool.and_self], ?_⟩
  simp only [D.py, D.pys, PyData.depth, PyData.depthAll, a3]
  decide
theorem blanks : ∀ k : Fin 20, isText (.str (Txt.mul " " (1 + (k.val : Int)))) = true ∧ (Txt.mul " " (1 + (k.val : Int))).cps.toList.all (fun c => decide (c < 128)) = true := by decide +kernel
theorem blank_mul {k : Int} (k0 : 0 ≤ k) (k1 : k < 20) : MulOk " " (1 + k) := by
  refine ⟨?_, fun _ _ => ?_, fun _ _ => ?_⟩
  · have e1 : decide (1 + k < -(2 ^ 63 : Int)) = false := decide_eq_false (by omega)
    have e2 : decide (1 + k ≥ 2 ^ 63) = false := decide_eq_false (by omega)
    rw [e1, e2]; rfl
  · have l : (" " : Str).length = 1 := by decide +kernel
    rw [l]
    intro h
    have h3 : (1 : Int) ≤ (2 ^ 63 - 1) / (1 + k) := (Int.le_ediv_iff_mul_le (by omega)).mpr (by omega)
    omega
  · have l : (" " : Str).length = 1 := by decide +kernel
    rw [l]
    have : ∀ m : Fin 21, Builtin.Str.tooLong (1 * m.val) = false := by decide +kernel
    have e := this ⟨(1 + k).toNat, by omega⟩
    exact e
def Fright (a : Addr) : DCall := fun ds q => ds = [.ptr a] ∧ q (.bl true)
theorem sc_law_right : FnScope ["pot", "some", "mail", "mate", "turn"] ["pot"] (defScope s_law_right) := ⟨rfl, rfl, rfl, by decide +kernel, rfl, by decide +kernel, by decide +kernel⟩
theorem ok_law_right {R : Res} {a : Addr} (hp : PotAt a R) {f : Addr} {fd : FuncData} (F : Fun K "_law_right" "_law_right" s_law_right f fd) (T : Txt K mg) (D_law_pull : DefPot P w K mg base a "_law_pull" 1 (Fpull a)) (D_law_mail : DefPot P w K mg base a "_law_mail" 3 (Fmail a))
    (D_law_both_ways : DefP P w K mg base "_law_both_ways" 7 (FletterP fun _ => .bl true)) (D_show_letter : ∀ R : Res, DefK P w K mg base "show_letter" "letter" 6 (spD K R (FletterP fun d => .str (closeS (aheadD d))))) :
    FnG P w K mg base 9 f fd ["pot"] (spD K R (Fright a)) := by
  refine FunD.ok F sc_law_right (fun ds q ⟨e, _⟩ => by rw [e]; rfl) (fun cdv A outer s H E ds q hr hgd h => ?_)
  obtain ⟨rfl, h⟩ := h
  refine ⟨_, (ss_cons (s_setLc (j := 1) (i := 4) rfl sc_law_right.nd (i_range T.n_range (a_cons d_int a_nil)) (blkOk_by (own := [("turn", 4)]) (N := ["pot", "some", "mail", "mate", "turn"]) (sc := defScope s_law_right) (by decide +kernel)) (fun _ _ _ _ _ => pg_name (i := 4) sc_law_right.nd rfl (Or.inl rfl)) (fun _ _ _ _ _ A => (d_call (D_law_mail hp.add) (hr.mono (by omega)) hgd (a_cons (dv 0) (a_cons (d_ix (d_lst (a_cons d_str (a_cons d_str a_nil))) (d_call (D_law_pull hp.add) (hr.mono (by omega)) hgd (a_cons (dv 0) (a_cons d_int a_nil)))) a_nil))))) (ss_cons (s_set (i := 1) sc_law_right.nd (d_op opd_addL op_cat (dv 1) (d_lst (a_cons (d_tup (a_cons (d_ix (d_ix (dv 1) d_int) d_int) (a_cons d_int (a_cons d_bl (a_cons (d_tup (a_cons d_str (a_cons (d_op opd_mulS op_mulS d_str (d_op opd_add opr_add d_int (d_call (D_law_pull hp) (hr.mono (by omega)) hgd (a_cons (dv 0) (a_cons d_int a_nil))))) a_nil))) a_nil))))) a_nil)))) (ss_cons (s_for (i := 2) sc_law_right.nd PassesOwn.never rfl (i_lst (d_op opd_addL op_cat (dv 1) (d_sliceL (dv 1) o_none (o_some d_int)))) (ss_one (s_if (t_not (t_val (d_call (D_law_both_ways _) (hr.mono (by omega)) hgd (a_cons (dv 2) a_nil)))) (ss_one (s_ret d_bl)) ss_nil))) (ss_cons (s_for (i := 3) sc_law_right.nd PassesOwn.never rfl (i_lst (dv 1)) (ss_one (s_if (t_cmp opd_ne opr_ne (d_cmp opd_eq (opr_eq hr.units0) (d_call (D_show_letter _).d (hr.mono (by omega)) hgd (a_cons (dv 3) a_nil)) (d_call (D_show_letter _).d (hr.mono (by omega)) hgd (a_cons (d_ix (dv 1) d_int) a_nil))) (d_cmp opd_eqP (op_eqD hr.units) (dv 3) (d_ix (dv 1) d_int))) (ss_one (s_ret d_bl)) ss_nil))) (ss_one (s_ret d_bl)))))), ?_⟩
  have okm : ∀ {d}, Bd 70 2 10000 d → okD d := fun b => ⟨b.pl, Nat.le_trans b.sz (by decide)⟩
  refine ⟨4, rfl, by decide, by decide, zz (by decide : 4 ≤ 1000), fun _ d => isLetter d = true ∧ okD d, fun j d hj => ?_, fun es hes hP => ?_⟩
  · refine ⟨.ptr a, rfl, zz (by decide : 2 ≤ 1000), .ptr a, rfl, 2, rfl, by decide, by decide, fun k k0 k1 => pick_ok rfl k0 k1 fun d hd => ?_⟩
    have hd : d ∈ [D.str "a", .str "b"] := hd
    simp only [List.mem_cons, List.not_mem_nil, or_false] at hd
    rcases hd with rfl | rfl
    · exact ⟨_, rfl, .inl rfl, fun m hm bm => ⟨hm, okm bm⟩⟩
    · exact ⟨_, rfl, .inr rfl, fun m hm bm => ⟨hm, okm bm⟩⟩
  have hes : es.length = 4 := hes
  have all0 : ∀ e ∈ es, isLetter e = true ∧ okD e := fun e he => by
    obtain ⟨i, hi⟩ := List.mem_iff_getElem?.mp he
    exact hP i e hi
  clear hP
  obtain ⟨e0, es', rfl⟩ : ∃ e0 es', es = e0 :: es' := by
    cases es with
    | nil => cases hes
    | cons x l => exact ⟨x, l, rfl⟩
  have hes1 : es'.length = 3 := by simpa using hes
  clear hes
  obtain ⟨hl0, ho0⟩ := all0 e0 (by simp)
  obtain ⟨s0, n0, b0, z0, ps0, he0, L0⟩ := letter_is hl0
  subst he0
  generalize hE : (D.tup [.str s0, .int n0, .bl b0, .tup (.str z0 :: ps0)]) = e0 at hl0 ho0 all0 ⊢
  have hix : ∀ {q : D → Prop}, q (.str s0) → ixD e0 (.int 0) q := fun {q} hq => by
    rw [← hE]
    exact ⟨0, rfl, .inl ⟨_, .str s0, rfl, atI_nat (j := 0) rfl, hq⟩⟩
  refine ⟨_, rfl, _, rfl, 0, rfl, .inl ⟨_, e0, rfl, atI_nat (j := 0) rfl, hix ?_⟩⟩
  refine ⟨.ptr a, rfl, 20, rfl, by decide, by decide, fun k k0 k1 => ?_⟩
  refine ⟨" ", 1 + k, rfl, rfl, blank_mul k0 k1, zz (by decide : 2 ≤ 1000), zz (by decide : 4 ≤ 1000), zz (by decide : 1 ≤ 1000), e0 :: es', _, .inr rfl, .inl rfl, by rw [List.length_cons, hes1, sizeLine_eq]; simp, ?_⟩
  have hb : isText (.str (Txt.mul " " (1 + k))) = true ∧ (Txt.mul " " (1 + k)).cps.toList.all (fun c => decide (c < 128)) = true := by
    have := blanks ⟨k.toNat, by omega⟩
    have e : ((⟨k.toNat, by omega⟩ : Fin 20).val : Int) = k := by show ((k.toNat : Nat) : Int) = k; omega
    rw [e] at this
    exact this
  generalize hW : D.tup [.str s0, .int 9999, .bl true, .tup [.str "word", .str (Txt.mul " " (1 + k))]] = W
  have hlW : isLetter W = true := by
    rw [← hW]
    show (isSide (.str s0) && (decide ((0 : Int) ≤ 9999) && decide ((9999 : Int) ≤ 9999)) && isText (.str (Txt.mul " " (1 + k))) && goT 9999 true "word" [.str (Txt.mul " " (1 + k))]) = true
    rw [hb.1, show isSide (.str s0) = true from (by rcases L0.s with rfl | rfl <;> decide +kernel)]
    have hg : goT 9999 true "word" [.str (Txt.mul " " (1 + k))] = true := by
      unfold goT
      rw [if_neg (by decide +kernel), if_neg (by decide), if_pos rfl]
    rw [hg]
    decide
  have hoW : okD W := by
    rw [← hW]
    have := (text_len hb.1).1
    have h1 := (side_free L0.s).1
    refine ⟨?_, ?_⟩
    · simp only [D.plain, D.plains, hb.2, Bool.and_true, Bool.and_eq_true, decide_eq_true_eq]
      refine ⟨by rcases L0.s with rfl | rfl <;> decide +kernel, by decide, by decide +kernel⟩
    · have h4 : ("word" : Str).length = 4 := by decide +kernel
      simp only [D.sz, D.szs]
      omega
  have all : ∀ e ∈ e0 :: es' ++ [W], isLetter e = true ∧ okD e := fun e he => by
    rcases List.mem_append.mp he with he | he
    · exact all0 e he
    · rw [List.mem_singleton.mp he]; exact ⟨hlW, hoW⟩
  have hat : L2.atI (e0 :: es' ++ [W]) 0 = some e0 := atI_nat (j := 0) rfl
  have hlen : (e0 :: es' ++ [W]).length = 5 := by rw [List.length_append, List.length_cons, hes1]; rfl
  clear all0 hoW hlW hb
  generalize e0 :: es' ++ [W] = ES at all hat hlen ⊢
  have cl : (Dl.cutD ES none (some 1)).length ≤ ES.length := by
    unfold Dl.cutD
    rw [List.length_take, List.length_drop]
    omega
  refine ⟨_, rfl, _, rfl, 1, rfl, ES, .inr rfl, ES, _, .inr rfl, .inr rfl, by rw [sizeLine_eq]; omega, _, .inr rfl, ?_⟩
  refine ⟨fun _ ρ => ∃ m t u, ρ = [some (.ptr a), some (.seq ES), m, t, u], ⟨_, _, _, rfl⟩, ?_, ?_⟩
  · rintro j d ρ hj ⟨m, t, u, rfl⟩
    have hd : isLetter d = true ∧ okD d := by
      have hm := List.mem_of_getElem? hj
      rcases List.mem_append.mp hm with hm | hm
      · exact all d hm
      · exact all d (List.mem_of_mem_drop (List.mem_of_mem_take hm))
    exact ⟨d, rfl, d, rfl, hd.2, hd.1, _, rfl, iteF ⟨_, _, _, rfl⟩⟩
  rintro ρ ⟨m, t, u, rfl⟩
  refine ⟨.seq ES, rfl, ES, .inr rfl, fun _ ρ => ∃ m t u, ρ = [some (.ptr a), some (.seq ES), m, t, u], ⟨_, _, _, rfl⟩, ?_, ?_⟩
  · rintro j d ρ hj ⟨m, t, u, rfl⟩
    have hd := all d (List.mem_of_getElem? hj)
    have hn := letter_nod hd.1
    have hn0 := letter_nod hl0
    refine ⟨d, rfl, d, rfl, hd.2, hd.1, .seq ES, rfl, 0, rfl, .inl ⟨ES, e0, rfl, hat, e0, rfl, ho0, hl0, _, rfl, ?_⟩⟩
    refine ⟨d, rfl, .seq ES, rfl, 0, rfl, .inl ⟨ES, e0, rfl, hat, hn.1, hn0.1, hn.2, hn0.2, _, rfl, _, rfl, ifF ?_ ⟨_, _, _, rfl⟩⟩⟩
    show (!((closeS (aheadD d) == closeS (aheadD e0)) == PyData.eqv d.py e0.py)) = false
    rw [letter_eqv hd.1 hl0]
    simp
  · rintro ρ ⟨m, t, u, rfl⟩
    exact h
end
end K3

set_option Elab.async false
set_option linter.all false
set_option maxRecDepth 100000
set_option maxHeartbeats 4000000
namespace K3
open PySem PySem.Spec PyProof.Rows L2 Dl
section
variable {P : Program} {w : World} {K : PySem.W.Frag} {mg : Str → Option Value} {base : Heap}
/-! ### the script's cells -/
def Fcell (a : Addr) : DCall := fun ds q => ∃ k : Int, ds = [.ptr a, .int k] ∧ 0 ≤ k ∧ k ≤ 100 ∧ ∀ z : Int, q (.int z)
theorem sc_law_cell : FnScope ["script", "k", "mixed", "cell"] ["script", "k"] (defScope s_law_cell) := ⟨rfl, rfl, rfl, by decide +kernel, rfl, by decide +kernel, by decide +kernel⟩
theorem ok_law_cell {R : Res} {a : Addr} {ns : List Int} (hS : ScrAt K a ns R) (hns : ns.length ≤ 16777216) {f : Addr} {fd : FuncData} (F : Fun K "_law_cell" "_law_cell" s_law_cell f fd) (T : Txt K mg) : FnG P w K mg base 1 f fd ["script", "k"] (spD K R (Fcell a)) := by
  refine FunD.ok F sc_law_cell (fun ds q ⟨_, e, _⟩ => by rw [e]; rfl) (fun cdv A outer s H E ds q hr hgd h => ?_)
  obtain ⟨k, rfl, k0, k1, h⟩ := h
  refine ⟨_, (ss_cons (s_if (t_cmp opd_cmpI op_lt (dv 1) (d_callB (cd_lenS hS) call_len T.n_len (by decide +kernel) (a_cons (dv 0) a_nil))) (ss_one (s_ret (d_ixS hS (dv 0) (dv 1)))) ss_nil) (ss_cons (s_set (i := 2) sc_law_cell.nd (d_op opd_int op_mod (d_op opd_int op_mul d_int (d_op opd_add opr_add (d_op opd_add opr_add (d_op opd_int op_mul (dv 1) (dv 1)) (d_op opd_int op_mul d_int (dv 1))) d_int)) d_int)) (ss_cons (s_for (i := 3) sc_law_cell.nd PassesOwn.never rfl (i_lst (d_sliceS hS hns (dv 0) o_none (o_some d_int))) (ss_one (s_set (i := 2) sc_law_cell.nd (d_op opd_int op_mod (d_op opd_add opr_add (d_op opd_int op_mul (dv 2) d_int) (dv 3)) d_int)))) (ss_one (s_ret (dv 2)))))), ?_⟩
  refine ⟨.int k, rfl, .ptr a, rfl, rfl, _, _, rfl, rfl, trivial, _, rfl, ?_⟩
  refine ifB (fun hk => ?_) (fun _ => ?_)
  · exact ⟨.ptr a, rfl, .int k, rfl, rfl, k, rfl, k0, of_decide_eq_true hk, h⟩
  · refine ⟨_, rfl, _, rfl, _, _, rfl, rfl, .inl ⟨by omega, by omega⟩, _, rfl, _, _, rfl, rfl, .inl ⟨by decide, by decide⟩, _, _, rfl, rfl, .inl ⟨by decide, by decide⟩, _, _, rfl, rfl, (show (0 : Int) < 1000000409 by decide), ?_⟩
    refine ⟨.ptr a, rfl, _, rfl, rfl, fun zs hz => ⟨_, .inr rfl, ?_⟩⟩
    refine ⟨fun _ ρ => ∃ (m : Int) (c : Option D), ρ = [some (.ptr a), some (.int k), some (.int m), c], ⟨_, _, rfl⟩, ?_, ?_⟩
    · rintro j d ρ hj ⟨m, c, rfl⟩
      rw [List.getElem?_map] at hj
      obtain ⟨z, -, rfl⟩ : ∃ z, zs[j]? = some z ∧ D.int z = d := by
        cases hz : zs[j]? with
        | none => rw [hz] at hj; cases hj
        | some z => rw [hz] at hj; exact ⟨z, rfl, by cases hj; rfl⟩
      exact ⟨_, rfl, _, _, rfl, rfl, .inr ⟨by decide, by decide⟩, _, rfl, _, _, rfl, rfl, (show (0 : Int) < 1000000409 by decide), _, _, rfl⟩
    · rintro ρ ⟨m, c, rfl⟩
      exact ⟨_, rfl, h m⟩
/-! ### a pot, made -/
theorem sc_law_pot : FnScope ["cell"] ["cell"] (defScope s_law_pot) := ⟨rfl, rfl, rfl, by decide +kernel, rfl, by decide +kernel, by decide +kernel⟩
theorem ok_law_pot {f : Addr} {fd : FuncData} (F : Fun K "_law_pot" "_law_pot" s_law_pot f fd) (T : Txt K mg) : FnG P w K mg base 1 f fd ["cell"] spPot := by
  refine FunG.ok F sc_law_pot (fun vs H Q E ⟨c, e, _⟩ => by rw [e]; rfl) (fun cdv A outer s H vs Q E hr hgd h => ?_)
  obtain ⟨c, rfl, h⟩ := h
  refine ⟨_, (pss_cons (ps_if (PW.pt (pw_or (pt_cmpR op_lt (pv 0) pe_int (nomark _)) (pw_or1 (pt_cmpR op_ge (pv 0) (pe_op op_pow pe_int pe_int) (nomark _)))))
    (pss_one (ps_ret (pe_lst (pa_cons (pe_callB call_abs (by rfl) T.n_abs (by decide +kernel) (pa_cons (pv 0) pa_nil)) (pa_cons (pe_op op_add (pe_op op_mul (pe_op op_mod (pv 0) pe_int) pe_int) pe_int) (pa_cons pe_int pa_nil)))))) pss_nil)
    (pss_one (ps_ret (pe_lst (pa_cons pe_int (pa_cons (pe_op op_add (pe_op op_mul (pe_op op_mod (pv 0) pe_int) pe_int) pe_int) (pa_cons pe_int pa_nil))))))), ?_⟩
  have z3 : (3 : Nat) ≤ sizeLine := by rw [sizeLine_eq]; exact (by decide : (3 : Nat) ≤ 16777216)
  have hm : ∀ c : Int, CMul (c % 1000000409) 6007 := fun c => .inr ⟨by decide, by decide⟩
  have p9 : (0 : Int) < 1000000409 := by decide
  refine ⟨.int c, rfl, _, _, rfl, rfl, _, rfl, ?_⟩
  refine ifB (fun _ => ?_) (fun _ => ⟨.int c, rfl, _, _, rfl, rfl, ⟨by decide, by decide, by decide⟩, _, _, rfl, rfl, _, rfl, ?_⟩)
  · exact ⟨.int c, rfl, c, rfl, .int c, rfl, _, _, rfl, rfl, p9, _, _, rfl, rfl, hm c, _, _, rfl, rfl, z3, fun a n => h a _ _ _ n⟩
  · refine ifB (fun _ => ?_) (fun _ => ?_)
    · exact ⟨.int c, rfl, c, rfl, .int c, rfl, _, _, rfl, rfl, p9, _, _, rfl, rfl, hm c, _, _, rfl, rfl, z3, fun a n => h a _ _ _ n⟩
    · exact ⟨.int c, rfl, _, _, rfl, rfl, p9, _, _, rfl, rfl, hm c, _, _, rfl, rfl, z3, fun a n => h a _ _ _ n⟩
def fixedD : D := .tup [.str "a", .int 0, .bl false, .tup [.str "bye"]]
theorem sc_law : FnScope ["script", "fixed", "k"] ["script"] (defScope s_law) := ⟨rfl, rfl, rfl, by decide +kernel, rfl, by decide +kernel, by decide +kernel⟩
def Flaw (a : Addr) : DCall := fun ds q => ds = [.ptr a] ∧ q (.bl true)
theorem ok_law {R : Res} {a : Addr} {ns : List Int} (hS : ScrAt K a ns R) (hns : ns.length ≤ 16777216) {f : Addr} {fd : FuncData} (F : Fun K "law" "law" s_law f fd) (T : Txt K mg) (D_law_cell : ∀ {R : Res}, ScrAt K a ns R → Def P w K mg base "_law_cell" 1 (spD K R (Fcell a))) (D_law_pot : Def P w K mg base "_law_pot" 1 spPot)
    (D_law_right : Def P w K mg base "_law_right" 9 (spAnyPot K Fright)) (D_show_letter : ∀ R : Res, DefK P w K mg base "show_letter" "letter" 6 (spD K R (FletterP fun d => .str (closeS (aheadD d))))) (D_law_closed : DefP P w K mg base "_law_closed" 2 (fun ds q => ∃ x, ds = [.str x] ∧ x.length ≤ 90 ∧ q (.str (closeS x)))) : FnG P w K mg base 10 f fd ["script"] (spD K R (Flaw a)) := by
  refine FunD.ok F sc_law (fun ds q ⟨e, _⟩ => by rw [e]; rfl) (fun cdv A outer s H E ds q hr hgd h => ?_)
  obtain ⟨rfl, h⟩ := h
  refine ⟨_, (ss_cons (s_set (i := 1) sc_law.nd (d_tup (a_cons d_str (a_cons d_int (a_cons d_bl (a_cons (d_tup (a_cons d_str a_nil)) a_nil)))))) (ss_cons (s_if (t_cmp opd_ne opr_ne (d_call (D_show_letter _).d (hr.mono (by omega)) hgd (a_cons (dv 1) a_nil)) (d_call (D_law_closed _) (hr.mono (by omega)) hgd (a_cons d_str a_nil))) (ss_one (s_ret d_bl)) ss_nil) (ss_one (s_ret (d_callB cd_all (cr_all rfl) T.n_all (by decide +kernel) (a_cons (d_lc (i := 2) rfl sc_law.nd (i_range T.n_range (a_cons (d_callB cd_int2 (call_max2 rfl) T.n_max (by decide +kernel) (a_cons d_int (a_cons (d_callB cd_int2 (call_min2 rfl) T.n_min (by decide +kernel) (a_cons (d_callB (cd_lenS hS) call_len T.n_len (by decide +kernel) (a_cons (dv 0) a_nil)) (a_cons d_int a_nil))) a_nil))) a_nil)) (blkOk_by (own := [("k", 2)]) (N := ["script", "fixed", "k"]) (sc := defScope s_law) (by decide +kernel)) (fun _ _ _ _ _ => pg_name (i := 2) sc_law.nd rfl (Or.inl rfl)) (fun _ _ _ _ _ A => (d_onPot (ans := .bl true) (fun _ _ => .bl true) (fun _ _ _ h => by cases h; rfl) D_law_right D_law_pot (hr.mono (by omega)) (hr.mono (by omega)) hgd (d_call (D_law_cell hS.add) (hr.mono (by omega)) hgd (a_cons (dv 0) (a_cons (dv 2) a_nil)))))) a_nil)))))), ?_⟩
  have hM : (fun i j : Int => if j > i then j else i) 2 ((fun i j : Int => if j < i then j else i) (ns.length : Int) 6) ≤ 6 ∧ 2 ≤ (fun i j : Int => if j > i then j else i) 2 ((fun i j : Int => if j < i then j else i) (ns.length : Int) 6) := by
    dsimp only
    split <;> split <;> omega
  have hfl : isLetter fixedD = true := by decide +kernel
  have hfo : okD fixedD := ⟨by decide +kernel, by decide +kernel⟩
  refine ⟨zz (by decide : 1 ≤ 1000), zz (by decide : 4 ≤ 1000), fixedD, rfl, fixedD, rfl, hfo, hfl, "from=a|number=0|again=no|bye=", rfl, by decide +kernel, _, rfl, _, rfl, ifF ?_ ?_⟩
  · show (!(closeS (aheadD fixedD) == closeS "from=a|number=0|again=no|bye=")) = false
    rw [show aheadD fixedD = "from=a|number=0|again=no|bye=" by decide +kernel]
    simp
  refine ⟨.ptr a, rfl, rfl, _, _, rfl, _, _, rfl, _, rfl, ?_⟩
  generalize (fun i j : Int => if j > i then j else i) 2 ((fun i j : Int => if j < i then j else i) (ns.length : Int) 6) = M at hM ⊢
  obtain ⟨m1, m2⟩ := hM
  refine ⟨by omega, by omega, ?_⟩
  refine ⟨by rw [List.length_map, List.length_range, sizeLine_eq]; omega, fun _ d => d = .bl true, fun j d hj => ?_, fun es hl hP => ?_⟩
  · have hl := (List.getElem?_eq_some_iff.mp hj).1
    rw [List.length_map, List.length_range] at hl
    rw [List.getElem?_map, List.getElem?_range hl] at hj
    cases hj
    exact ⟨.ptr a, rfl, _, rfl, (j : Int), rfl, by omega, by omega, fun z => ⟨z, rfl, rfl⟩⟩
  · refine ⟨_, es.map fun _ => true, rfl, .inr (congrArg D.seq ?_), ?_⟩
    · rw [List.map_map]
      apply List.ext_getElem?
      intro j
      rw [List.getElem?_map]
      cases he : es[j]? with
      | none => rfl
      | some e => rw [hP j e he]; rfl
    · have e : ((es.map fun _ => true).all id) = true := List.all_eq_true.mpr fun x hx => by
        obtain ⟨_, _, rfl⟩ := List.mem_map.mp hx
        rfl
      rw [e]
      exact h
end
end K3

set_option Elab.async false
set_option linter.all false
set_option maxRecDepth 100000
set_option maxHeartbeats 0
namespace K3
open PySem PySem.Spec PyProof.Rows L2 Dl
/-! ### the head: what the top leaves -/
def d_is_whole : He.DefD := ⟨("is_whole", none), "is_whole", "is_whole", defArgs s_is_whole, defBody s_is_whole, defScope s_is_whole, [], []⟩
def d_is_truth : He.DefD := ⟨("is_truth", none), "is_truth", "is_truth", defArgs s_is_truth, defBody s_is_truth, defScope s_is_truth, [], []⟩
def d_is_side : He.DefD := ⟨("is_side", none), "is_side", "is_side", defArgs s_is_side, defBody s_is_side, defScope s_is_side, [], []⟩
def d_is_text : He.DefD := ⟨("is_text", none), "is_text", "is_text", defArgs s_is_text, defBody s_is_text, defScope s_is_text, [], []⟩
def d_has_word : He.DefD := ⟨("has_word", none), "has_word", "has_word", defArgs s_has_word, defBody s_has_word, defScope s_has_word, [], []⟩
def d_is_word : He.DefD := ⟨("_is_word", none), "_is_word", "_is_word", defArgs s_is_word, defBody s_is_word, defScope s_is_word, [], []⟩
def d_is_beat : He.DefD := ⟨("_is_beat", none), "_is_beat", "_is_beat", defArgs s_is_beat, defBody s_is_beat, defScope s_is_beat, [], []⟩
def d_is_test : He.DefD := ⟨("_is_test", none), "_is_test", "_is_test", defArgs s_is_test, defBody s_is_test, defScope s_is_test, [], []⟩
def d_is_ask : He.DefD := ⟨("_is_ask", none), "_is_ask", "_is_ask", defArgs s_is_ask, defBody s_is_ask, defScope s_is_ask, [], []⟩
def d_is_fill : He.DefD := ⟨("_is_fill", none), "_is_fill", "_is_fill", defArgs s_is_fill, defBody s_is_fill, defScope s_is_fill, [], []⟩
def d_is_hello : He.DefD := ⟨("_is_hello", none), "_is_hello", "_is_hello", defArgs s_is_hello, defBody s_is_hello, defScope s_is_hello, [], []⟩
def d_is_bye : He.DefD := ⟨("_is_bye", none), "_is_bye", "_is_bye", defArgs s_is_bye, defBody s_is_bye, defScope s_is_bye, [], []⟩
def d_is_body : He.DefD := ⟨("is_body", none), "is_body", "is_body", defArgs s_is_body, defBody s_is_body, defScope s_is_body, [], []⟩
def d_go_together : He.DefD := ⟨("_go_together", none), "_go_together", "_go_together", defArgs s_go_together, defBody s_go_together, defScope s_go_together, [], []⟩
def d_is_letter : He.DefD := ⟨("is_letter", none), "is_letter", "is_letter", defArgs s_is_letter, defBody s_is_letter, defScope s_is_letter, [], []⟩
def d_need_letter : He.DefD := ⟨("need_letter", none), "need_letter", "need_letter", defArgs s_need_letter, defBody s_need_letter, defScope s_need_letter, [], []⟩
def d_show_part : He.DefD := ⟨("show_part", none), "show_part", "show_part", defArgs s_show_part, defBody s_show_part, defScope s_show_part, [], []⟩
def d_show_parts : He.DefD := ⟨("show_parts", none), "show_parts", "show_parts", defArgs s_show_parts, defBody s_show_parts, defScope s_show_parts, [], []⟩
def d_is_number : He.DefD := ⟨("is_number", none), "is_number", "is_number", defArgs s_is_number, defBody s_is_number, defScope s_is_number, [], []⟩
def d_read_part : He.DefD := ⟨("read_part", none), "read_part", "read_part", defArgs s_read_part, defBody s_read_part, defScope s_read_part, [], []⟩
def d_sum_of : He.DefD := ⟨("_sum_of", none), "_sum_of", "_sum_of", defArgs s_sum_of, defBody s_sum_of, defScope s_sum_of, [], []⟩
def d_show_ahead : He.DefD := ⟨("_show_ahead", none), "_show_ahead", "_show_ahead", defArgs s_show_ahead, defBody s_show_ahead, defScope s_show_ahead, [], []⟩
def d_show_letter : He.DefD := ⟨("show_letter", none), "show_letter", "show_letter", defArgs s_show_letter, defBody s_show_letter, defScope s_show_letter, [], []⟩
def d_is_numbered : He.DefD := ⟨("_is_numbered", none), "_is_numbered", "_is_numbered", defArgs s_is_numbered, defBody s_is_numbered, defScope s_is_numbered, [], []⟩
def d_read_body : He.DefD := ⟨("_read_body", none), "_read_body", "_read_body", defArgs s_read_body, defBody s_read_body, defScope s_read_body, [], []⟩
def d_read_ahead : He.DefD := ⟨("_read_ahead", none), "_read_ahead", "_read_ahead", defArgs s_read_ahead, defBody s_read_ahead, defScope s_read_ahead, [], []⟩
def d_read_letter : He.DefD := ⟨("read_letter", none), "read_letter", "read_letter", defArgs s_read_letter, defBody s_read_letter, defScope s_read_letter, [], []⟩
def d_law_cell : He.DefD := ⟨("_law_cell", none), "_law_cell", "_law_cell", defArgs s_law_cell, defBody s_law_cell, defScope s_law_cell, [], []⟩
def d_law_pot : He.DefD := ⟨("_law_pot", none), "_law_pot", "_law_pot", defArgs s_law_pot, defBody s_law_pot, defScope s_law_pot, [], []⟩
def d_law_pull : He.DefD := ⟨("_law_pull", none), "_law_pull", "_law_pull", defArgs s_law_pull, defBody s_law_pull, defScope s_law_pull, [], []⟩
def d_law_phrase : He.DefD := ⟨("_law_phrase", none), "_law_phrase", "_law_phrase", defArgs s_law_phrase, defBody s_law_phrase, defScope s_law_phrase, [], []⟩
def d_law_number : He.DefD := ⟨("_law_number", none), "_law_number", "_law_number", defArgs s_law_number, defBody s_law_number, defScope s_law_number, [], []⟩
def d_law_mail : He.DefD := ⟨("_law_mail", none), "_law_mail", "_law_mail", defArgs s_law_mail, defBody s_law_mail, defScope s_law_mail, [], []⟩
def d_law_is : He.DefD := ⟨("_law_is", none), "_law_is", "_law_is", defArgs s_law_is, defBody s_law_is, defScope s_law_is, [], []⟩
def d_law_shown : He.DefD := ⟨("_law_shown", none), "_law_shown", "_law_shown", defArgs s_law_shown, defBody s_law_shown, defScope s_law_shown, [], []⟩
def d_law_total : He.DefD := ⟨("_law_total", none), "_law_total", "_law_total", defArgs s_law_total, defBody s_law_total, defScope s_law_total, [], []⟩
def d_law_closed : He.DefD := ⟨("_law_closed", none), "_law_closed", "_law_closed", defArgs s_law_closed, defBody s_law_closed, defScope s_law_closed, [], []⟩
def d_law_written : He.DefD := ⟨("_law_written", none), "_law_written", "_law_written", defArgs s_law_written, defBody s_law_written, defScope s_law_written, [], []⟩
def d_law_both_ways : He.DefD := ⟨("_law_both_ways", none), "_law_both_ways", "_law_both_ways", defArgs s_law_both_ways, defBody s_law_both_ways, defScope s_law_both_ways, [], []⟩
def d_law_right : He.DefD := ⟨("_law_right", none), "_law_right", "_law_right", defArgs s_law_right, defBody s_law_right, defScope s_law_right, [], []⟩
def d_law : He.DefD := ⟨("law", none), "law", "law", defArgs s_law, defBody s_law, defScope s_law, [], []⟩
def fn : List He.DefD := [d_is_whole, d_is_truth, d_is_side, d_is_text, d_has_word, d_is_word, d_is_beat, d_is_test, d_is_ask, d_is_fill, d_is_hello, d_is_bye, d_is_body, d_go_together, d_is_letter, d_need_letter, d_show_part, d_show_parts, d_is_number, d_read_part, d_sum_of, d_show_ahead, d_show_letter, d_is_numbered, d_read_body, d_read_ahead, d_read_letter, d_law_cell, d_law_pot, d_law_pull, d_law_phrase, d_law_number, d_law_mail, d_law_is, d_law_shown, d_law_total, d_law_closed, d_law_written, d_law_both_ways, d_law_right, d_law]
def fa : List He.Fa := [.glo "is_whole", .glo "is_truth", .glo "is_side", .glo "is_text", .glo "has_word", .glo "_is_word", .glo "_is_beat", .glo "_is_test", .glo "_is_ask", .glo "_is_fill", .glo "_is_hello", .glo "_is_bye", .glo "is_body", .glo "_go_together", .glo "is_letter", .glo "need_letter", .glo "show_part", .glo "show_parts", .glo "is_number", .glo "read_part", .glo "_sum_of", .glo "_show_ahead", .glo "show_letter", .glo "_is_numbered", .glo "_read_body", .glo "_read_ahead", .glo "read_letter", .glo "_law_cell", .glo "_law_pot", .glo "_law_pull", .glo "_law_phrase", .glo "_law_number", .glo "_law_mail", .glo "_law_is", .glo "_law_shown", .glo "_law_total", .glo "_law_closed", .glo "_law_written", .glo "_law_both_ways", .glo "_law_right", .glo "law", .glo "BODIES", .glo "SIDES", .free "type", .free "int", .free "bool", .free "str", .free "tuple", .free "len", .free "all", .free "isinstance", .free "abs", .free "divmod", .free "list", .free "min", .free "max", .free "range", .free "repr", .free "enumerate",
  .int "MOST_SIGNS" 20, .int "MOST_NUMBER" 9999, .int "MOST_ROUND" 999, .str "TEXT_SIGNS" "abcdefghijklmnopqrstuvwxyz0123456789 ", .str "SIGNS" "abcdefghijklmnopqrstuvwxyz0123456789 =|,", .str "FIGURES" "0123456789", .str "LENGTH" "length=", .str "SUM" "sum=", .int "MOST_FIGURES" 5, .int "SUM_BELOW" 997]
def tks : List Str := ["word", "beat", "test", "ask", "fill", "hello", "bye"]
def kvs : List (Str × He.Dv) := [("word", .glo "_is_word"), ("beat", .glo "_is_beat"), ("test", .glo "_is_test"), ("ask", .glo "_is_ask"), ("fill", .glo "_is_fill"), ("hello", .glo "_is_hello"), ("bye", .glo "_is_bye")]
def ts : List He.Tab := [(fun K => He.ga K "BODIES", tks)]
def ex (K : PySem.W.Frag) : Bool := He.tupB K "SIDES" [.str "a", .str "b"] && He.valsB K (He.ga K "BODIES") kvs
theorem bind1 {K : PySem.W.Frag} {x a : Str} {st : Stmt} {f : Addr} {fd : FuncData} (F : Fun K x x st f fd) (h : ∀ (kV doc pm : Value) (an : Option Addr) (cdv ct : Value) (us : List Value), us.length = 1 → bindArgs (PySem.W.fnOf x x (defArgs st) (defBody st) (defScope st) .none kV doc pm an cdv ct) ⟨us, []⟩ = pure ([a].zip us)) : Binds K fd [a] [] := F.binds h
end K3

set_option Elab.async false
set_option linter.all false
set_option maxRecDepth 100000
set_option maxHeartbeats 4000000
namespace K3
open PySem PySem.Spec PyProof.Rows L2 Dl
def adK (K : PySem.W.Frag) (z : Str) : Option Addr := if z = "word" then some (He.ga K "_is_word") else if z = "beat" then some (He.ga K "_is_beat") else if z = "test" then some (He.ga K "_is_test") else if z = "ask" then some (He.ga K "_is_ask") else if z = "fill" then some (He.ga K "_is_fill") else if z = "hello" then some (He.ga K "_is_hello") else if z = "bye" then some (He.ga K "_is_bye") else none
theorem facts {P : Program} {w : World} {K : PySem.W.Frag} {h : Heap} {mg : Str → Option Value} {f0 : Addr} (X : K.In h) (G : h.Ns mainGlobals mg) (hfa : mg "law" = some (.ref f0))
    (h1 : fa.all (fun f => f.ok K) = true) (h1b : fn.all (fun f => f.ok K) = true) (h1c : fn.map (fun d => He.fnW K d.at_) = fn.map He.DefD.val)
    (h2 : He.dicW K (He.ga K "BODIES") = some (He.keysIn w.params tks)) (h3 : ex K = true) :
    ∃ fd : FuncData, (∀ (s : Shared) (u : Value), BindsTo s fd ⟨[u], []⟩ [("script", u)]) ∧ ∀ base : Heap, K.In base → base.Ns mainGlobals mg → FnG P w K mg base 10 f0 fd ["script"] (spTop K 63) := by
  have c : He.SaysD fa fn K := by
    show ((fa.all fun f => f.ok K) && fn.all fun d => d.ok K, fn.map fun d => He.fnW K d.at_) = (true, fn.map He.DefD.val)
    rw [h1, h1b, h1c]; rfl
  obtain ⟨hsd, hv⟩ := He.ba (show (He.tupB K "SIDES" [.str "a", .str "b"] && He.valsB K (He.ga K "BODIES") kvs) = true from h3)
  obtain ⟨fd_is_whole, F_is_whole⟩ := c.def_ 0 (d := d_is_whole) rfl
  have F_is_whole : Fun K "is_whole" "is_whole" s_is_whole (He.ga K "is_whole") fd_is_whole := fun_ofD F_is_whole
  have g_is_whole : mg "is_whole" = some (.ref (He.ga K "is_whole")) := He.glo_ok X G (c.fact 0 (f := .glo "is_whole") rfl)
  have b_is_whole : Binds K fd_is_whole ["thing", "low", "high"] [] := F_is_whole.binds fun _ _ _ _ _ _ us hl => match us, hl with | [_, _, _], _ => rfl
  obtain ⟨fd_is_truth, F_is_truth⟩ := c.def_ 1 (d := d_is_truth) rfl
  have F_is_truth : Fun K "is_truth" "is_truth" s_is_truth (He.ga K "is_truth") fd_is_truth := fun_ofD F_is_truth
  have g_is_truth : mg "is_truth" = some (.ref (He.ga K "is_truth")) := He.glo_ok X G (c.fact 1 (f := .glo "is_truth") rfl)
  have b_is_truth : Binds K fd_is_truth ["thing"] [] := F_is_truth.binds fun _ _ _ _ _ _ us hl => match us, hl with | [_], _ => rfl
  obtain ⟨fd_is_side, F_is_side⟩ := c.def_ 2 (d := d_is_side) rfl
  have F_is_side : Fun K "is_side" "is_side" s_is_side (He.ga K "is_side") fd_is_side := fun_ofD F_is_side
  have g_is_side : mg "is_side" = some (.ref (He.ga K "is_side")) := He.glo_ok X G (c.fact 2 (f := .glo "is_side") rfl)
  have b_is_side : Binds K fd_is_side ["thing"] [] := F_is_side.binds fun _ _ _ _ _ _ us hl => match us, hl with | [_], _ => rfl
  obtain ⟨fd_is_text, F_is_text⟩ := c.def_ 3 (d := d_is_text) rfl
  have F_is_text : Fun K "is_text" "is_text" s_is_text (He.ga K "is_text") fd_is_text := fun_ofD F_is_text
  have g_is_text : mg "is_text" = some (.ref (He.ga K "is_text")) := He.glo_ok X G (c.fact 3 (f := .glo "is_text") rfl)
  have b_is_text : Binds K fd_is_text ["thing"] [] := F_is_text.binds fun _ _ _ _ _ _ us hl => match us, hl with | [_], _ => rfl
  obtain ⟨fd_is_word, F_is_word⟩ := c.def_ 5 (d := d_is_word) rfl
  have F_is_word : Fun K "_is_word" "_is_word" s_is_word (He.ga K "_is_word") fd_is_word := fun_ofD F_is_word
  have g_is_word : mg "_is_word" = some (.ref (He.ga K "_is_word")) := He.glo_ok X G (c.fact 5 (f := .glo "_is_word") rfl)
  have b_is_word : Binds K fd_is_word ["parts"] [] := F_is_word.binds fun _ _ _ _ _ _ us hl => match us, hl with | [_], _ => rfl
  obtain ⟨fd_is_beat, F_is_beat⟩ := c.def_ 6 (d := d_is_beat) rfl
  have F_is_beat : Fun K "_is_beat" "_is_beat" s_is_beat (He.ga K "_is_beat") fd_is_beat := fun_ofD F_is_beat
  have g_is_beat : mg "_is_beat" = some (.ref (He.ga K "_is_beat")) := He.glo_ok X G (c.fact 6 (f := .glo "_is_beat") rfl)
  have b_is_beat : Binds K fd_is_beat ["parts"] [] := F_is_beat.binds fun _ _ _ _ _ _ us hl => match us, hl with | [_], _ => rfl
  obtain ⟨fd_is_test, F_is_test⟩ := c.def_ 7 (d := d_is_test) rfl
  have F_is_test : Fun K "_is_test" "_is_test" s_is_test (He.ga K "_is_test") fd_is_test := fun_ofD F_is_test
  have g_is_test : mg "_is_test" = some (.ref (He.ga K "_is_test")) := He.glo_ok X G (c.fact 7 (f := .glo "_is_test") rfl)
  have b_is_test : Binds K fd_is_test ["parts"] [] := F_is_test.binds fun _ _ _ _ _ _ us hl => match us, hl with | [_], _ => rfl
  obtain ⟨fd_is_ask, F_is_ask⟩ := c.def_ 8 (d := d_is_ask) rfl
  have F_is_ask : Fun K "_is_ask" "_is_ask" s_is_ask (He.ga K "_is_ask") fd_is_ask := fun_ofD F_is_ask
  have g_is_ask : mg "_is_ask" = some (.ref (He.ga K "_is_ask")) := He.glo_ok X G (c.fact 8 (f := .glo "_is_ask") rfl)
  have b_is_ask : Binds K fd_is_ask ["parts"] [] := F_is_ask.binds fun _ _ _ _ _ _ us hl => match us, hl with | [_], _ => rfl
  obtain ⟨fd_is_fill, F_is_fill⟩ := c.def_ 9 (d := d_is_fill) rfl
  have F_is_fill : Fun K "_is_fill" "_is_fill" s_is_fill (He.ga K "_is_fill") fd_is_fill := fun_ofD F_is_fill
  have g_is_fill : mg "_is_fill" = some (.ref (He.ga K "_is_fill")) := He.glo_ok X G (c.fact 9 (f := .glo "_is_fill") rfl)
  have b_is_fill : Binds K fd_is_fill ["parts"] [] := F_is_fill.binds fun _ _ _ _ _ _ us hl => match us, hl with | [_], _ => rfl
  obtain ⟨fd_is_hello, F_is_hello⟩ := c.def_ 10 (d := d_is_hello) rfl
  have F_is_hello : Fun K "_is_hello" "_is_hello" s_is_hello (He.ga K "_is_hello") fd_is_hello := fun_ofD F_is_hello
  have g_is_hello : mg "_is_hello" = some (.ref (He.ga K "_is_hello")) := He.glo_ok X G (c.fact 10 (f := .glo "_is_hello") rfl)
  have b_is_hello : Binds K fd_is_hello ["parts"] [] := F_is_hello.binds fun _ _ _ _ _ _ us hl => match us, hl with | [_], _ => rfl
  obtain ⟨fd_is_bye, F_is_bye⟩ := c.def_ 11 (d := d_is_bye) rfl
  have F_is_bye : Fun K "_is_bye" "_is_bye" s_is_bye (He.ga K "_is_bye") fd_is_bye := fun_ofD F_is_bye
  have g_is_bye : mg "_is_bye" = some (.ref (He.ga K "_is_bye")) := He.glo_ok X G (c.fact 11 (f := .glo "_is_bye") rfl)
  have b_is_bye : Binds K fd_is_bye ["parts"] [] := F_is_bye.binds fun _ _ _ _ _ _ us hl => match us, hl with | [_], _ => rfl
  obtain ⟨fd_has_word, F_has_word⟩ := c.def_ 4 (d := d_has_word) rfl
  have F_has_word : Fun K "has_word" "has_word" s_has_word (He.ga K "has_word") fd_has_word := fun_ofD F_has_word
  have g_has_word : mg "has_word" = some (.ref (He.ga K "has_word")) := He.glo_ok X G (c.fact 4 (f := .glo "has_word") rfl)
  have b_has_word : Binds K fd_has_word ["thing"] [] := F_has_word.binds fun _ _ _ _ _ _ us hl => match us, hl with | [_], _ => rfl
  obtain ⟨fd_is_body, F_is_body⟩ := c.def_ 12 (d := d_is_body) rfl
  have F_is_body : Fun K "is_body" "is_body" s_is_body (He.ga K "is_body") fd_is_body := fun_ofD F_is_body
  have g_is_body : mg "is_body" = some (.ref (He.ga K "is_body")) := He.glo_ok X G (c.fact 12 (f := .glo "is_body") rfl)
  have b_is_body : Binds K fd_is_body ["thing"] [] := F_is_body.binds fun _ _ _ _ _ _ us hl => match us, hl with | [_], _ => rfl
  obtain ⟨fd_go_together, F_go_together⟩ := c.def_ 13 (d := d_go_together) rfl
  have F_go_together : Fun K "_go_together" "_go_together" s_go_together (He.ga K "_go_together") fd_go_together := fun_ofD F_go_together
  have g_go_together : mg "_go_together" = some (.ref (He.ga K "_go_together")) := He.glo_ok X G (c.fact 13 (f := .glo "_go_together") rfl)
  have b_go_together : Binds K fd_go_together ["number", "again", "body"] [] := F_go_together.binds fun _ _ _ _ _ _ us hl => match us, hl with | [_, _, _], _ => rfl
  obtain ⟨fd_is_letter, F_is_letter⟩ := c.def_ 14 (d := d_is_letter) rfl
  have F_is_letter : Fun K "is_letter" "is_letter" s_is_letter (He.ga K "is_letter") fd_is_letter := fun_ofD F_is_letter
  have g_is_letter : mg "is_letter" = some (.ref (He.ga K "is_letter")) := He.glo_ok X G (c.fact 14 (f := .glo "is_letter") rfl)
  have b_is_letter : Binds K fd_is_letter ["thing"] [] := F_is_letter.binds fun _ _ _ _ _ _ us hl => match us, hl with | [_], _ => rfl
  obtain ⟨fd_need_letter, F_need_letter⟩ := c.def_ 15 (d := d_need_letter) rfl
  have F_need_letter : Fun K "need_letter" "need_letter" s_need_letter (He.ga K "need_letter") fd_need_letter := fun_ofD F_need_letter
  have g_need_letter : mg "need_letter" = some (.ref (He.ga K "need_letter")) := He.glo_ok X G (c.fact 15 (f := .glo "need_letter") rfl)
  have b_need_letter : Binds K fd_need_letter ["thing"] [] := F_need_letter.binds fun _ _ _ _ _ _ us hl => match us, hl with | [_], _ => rfl
  obtain ⟨fd_show_part, F_show_part⟩ := c.def_ 16 (d := d_show_part) rfl
  have F_show_part : Fun K "show_part" "show_part" s_show_part (He.ga K "show_part") fd_show_part := fun_ofD F_show_part
  have g_show_part : mg "show_part" = some (.ref (He.ga K "show_part")) := He.glo_ok X G (c.fact 16 (f := .glo "show_part") rfl)
  have b_show_part : Binds K fd_show_part ["part"] [] := F_show_part.binds fun _ _ _ _ _ _ us hl => match us, hl with | [_], _ => rfl
  obtain ⟨fd_show_parts, F_show_parts⟩ := c.def_ 17 (d := d_show_parts) rfl
  have F_show_parts : Fun K "show_parts" "show_parts" s_show_parts (He.ga K "show_parts") fd_show_parts := fun_ofD F_show_parts
  have g_show_parts : mg "show_parts" = some (.ref (He.ga K "show_parts")) := He.glo_ok X G (c.fact 17 (f := .glo "show_parts") rfl)
  have b_show_parts : Binds K fd_show_parts ["parts"] [] := F_show_parts.binds fun _ _ _ _ _ _ us hl => match us, hl with | [_], _ => rfl
  obtain ⟨fd_is_number, F_is_number⟩ := c.def_ 18 (d := d_is_number) rfl
  have F_is_number : Fun K "is_number" "is_number" s_is_number (He.ga K "is_number") fd_is_number := fun_ofD F_is_number
  have g_is_number : mg "is_number" = some (.ref (He.ga K "is_number")) := He.glo_ok X G (c.fact 18 (f := .glo "is_number") rfl)
  have b_is_number : Binds K fd_is_number ["text"] [] := F_is_number.binds fun _ _ _ _ _ _ us hl => match us, hl with | [_], _ => rfl
  obtain ⟨fd_read_part, F_read_part⟩ := c.def_ 19 (d := d_read_part) rfl
  have F_read_part : Fun K "read_part" "read_part" s_read_part (He.ga K "read_part") fd_read_part := fun_ofD F_read_part
  have g_read_part : mg "read_part" = some (.ref (He.ga K "read_part")) := He.glo_ok X G (c.fact 19 (f := .glo "read_part") rfl)
  have b_read_part : Binds K fd_read_part ["text"] [] := F_read_part.binds fun _ _ _ _ _ _ us hl => match us, hl with | [_], _ => rfl
  obtain ⟨fd_sum_of, F_sum_of⟩ := c.def_ 20 (d := d_sum_of) rfl
  have F_sum_of : Fun K "_sum_of" "_sum_of" s_sum_of (He.ga K "_sum_of") fd_sum_of := fun_ofD F_sum_of
  have g_sum_of : mg "_sum_of" = some (.ref (He.ga K "_sum_of")) := He.glo_ok X G (c.fact 20 (f := .glo "_sum_of") rfl)
  have b_sum_of : Binds K fd_sum_of ["text"] [] := F_sum_of.binds fun _ _ _ _ _ _ us hl => match us, hl with | [_], _ => rfl
  obtain ⟨fd_show_ahead, F_show_ahead⟩ := c.def_ 21 (d := d_show_ahead) rfl
  have F_show_ahead : Fun K "_show_ahead" "_show_ahead" s_show_ahead (He.ga K "_show_ahead") fd_show_ahead := fun_ofD F_show_ahead
  have g_show_ahead : mg "_show_ahead" = some (.ref (He.ga K "_show_ahead")) := He.glo_ok X G (c.fact 21 (f := .glo "_show_ahead") rfl)
  have b_show_ahead : Binds K fd_show_ahead ["letter"] [] := F_show_ahead.binds fun _ _ _ _ _ _ us hl => match us, hl with | [_], _ => rfl
  obtain ⟨fd_show_letter, F_show_letter⟩ := c.def_ 22 (d := d_show_letter) rfl
  have F_show_letter : Fun K "show_letter" "show_letter" s_show_letter (He.ga K "show_letter") fd_show_letter := fun_ofD F_show_letter
  have g_show_letter : mg "show_letter" = some (.ref (He.ga K "show_letter")) := He.glo_ok X G (c.fact 22 (f := .glo "show_letter") rfl)
  have b_show_letter : Binds K fd_show_letter ["letter"] [] := F_show_letter.binds fun _ _ _ _ _ _ us hl => match us, hl with | [_], _ => rfl
  obtain ⟨fd_is_numbered, F_is_numbered⟩ := c.def_ 23 (d := d_is_numbered) rfl
  have F_is_numbered : Fun K "_is_numbered" "_is_numbered" s_is_numbered (He.ga K "_is_numbered") fd_is_numbered := fun_ofD F_is_numbered
  have g_is_numbered : mg "_is_numbered" = some (.ref (He.ga K "_is_numbered")) := He.glo_ok X G (c.fact 23 (f := .glo "_is_numbered") rfl)
  have b_is_numbered : Binds K fd_is_numbered ["part", "name"] [] := F_is_numbered.binds fun _ _ _ _ _ _ us hl => match us, hl with | [_, _], _ => rfl
  obtain ⟨fd_read_body, F_read_body⟩ := c.def_ 24 (d := d_read_body) rfl
  have F_read_body : Fun K "_read_body" "_read_body" s_read_body (He.ga K "_read_body") fd_read_body := fun_ofD F_read_body
  have g_read_body : mg "_read_body" = some (.ref (He.ga K "_read_body")) := He.glo_ok X G (c.fact 24 (f := .glo "_read_body") rfl)
  have b_read_body : Binds K fd_read_body ["part"] [] := F_read_body.binds fun _ _ _ _ _ _ us hl => match us, hl with | [_], _ => rfl
  obtain ⟨fd_read_ahead, F_read_ahead⟩ := c.def_ 25 (d := d_read_ahead) rfl
  have F_read_ahead : Fun K "_read_ahead" "_read_ahead" s_read_ahead (He.ga K "_read_ahead") fd_read_ahead := fun_ofD F_read_ahead
  have g_read_ahead : mg "_read_ahead" = some (.ref (He.ga K "_read_ahead")) := He.glo_ok X G (c.fact 25 (f := .glo "_read_ahead") rfl)
  have b_read_ahead : Binds K fd_read_ahead ["ahead"] [] := F_read_ahead.binds fun _ _ _ _ _ _ us hl => match us, hl with | [_], _ => rfl
  obtain ⟨fd_read_letter, F_read_letter⟩ := c.def_ 26 (d := d_read_letter) rfl
  have F_read_letter : Fun K "read_letter" "read_letter" s_read_letter (He.ga K "read_letter") fd_read_letter := fun_ofD F_read_letter
  have g_read_letter : mg "read_letter" = some (.ref (He.ga K "read_letter")) := He.glo_ok X G (c.fact 26 (f := .glo "read_letter") rfl)
  have b_read_letter : Binds K fd_read_letter ["text"] [] := F_read_letter.binds fun _ _ _ _ _ _ us hl => match us, hl with | [_], _ => rfl
  obtain ⟨fd_law_is, F_law_is⟩ := c.def_ 33 (d := d_law_is) rfl
  have F_law_is : Fun K "_law_is" "_law_is" s_law_is (He.ga K "_law_is") fd_law_is := fun_ofD F_law_is
  have g_law_is : mg "_law_is" = some (.ref (He.ga K "_law_is")) := He.glo_ok X G (c.fact 33 (f := .glo "_law_is") rfl)
  have b_law_is : Binds K fd_law_is ["found", "due_here"] [] := F_law_is.binds fun _ _ _ _ _ _ us hl => match us, hl with | [_, _], _ => rfl
  obtain ⟨fd_law_shown, F_law_shown⟩ := c.def_ 34 (d := d_law_shown) rfl
  have F_law_shown : Fun K "_law_shown" "_law_shown" s_law_shown (He.ga K "_law_shown") fd_law_shown := fun_ofD F_law_shown
  have g_law_shown : mg "_law_shown" = some (.ref (He.ga K "_law_shown")) := He.glo_ok X G (c.fact 34 (f := .glo "_law_shown") rfl)
  have b_law_shown : Binds K fd_law_shown ["part"] [] := F_law_shown.binds fun _ _ _ _ _ _ us hl => match us, hl with | [_], _ => rfl
  obtain ⟨fd_law_total, F_law_total⟩ := c.def_ 35 (d := d_law_total) rfl
  have F_law_total : Fun K "_law_total" "_law_total" s_law_total (He.ga K "_law_total") fd_law_total := fun_ofD F_law_total
  have g_law_total : mg "_law_total" = some (.ref (He.ga K "_law_total")) := He.glo_ok X G (c.fact 35 (f := .glo "_law_total") rfl)
  have b_law_total : Binds K fd_law_total ["shown"] [] := F_law_total.binds fun _ _ _ _ _ _ us hl => match us, hl with | [_], _ => rfl
  obtain ⟨fd_law_closed, F_law_closed⟩ := c.def_ 36 (d := d_law_closed) rfl
  have F_law_closed : Fun K "_law_closed" "_law_closed" s_law_closed (He.ga K "_law_closed") fd_law_closed := fun_ofD F_law_closed
  have g_law_closed : mg "_law_closed" = some (.ref (He.ga K "_law_closed")) := He.glo_ok X G (c.fact 36 (f := .glo "_law_closed") rfl)
  have b_law_closed : Binds K fd_law_closed ["body"] [] := F_law_closed.binds fun _ _ _ _ _ _ us hl => match us, hl with | [_], _ => rfl
  obtain ⟨fd_law_written, F_law_written⟩ := c.def_ 37 (d := d_law_written) rfl
  have F_law_written : Fun K "_law_written" "_law_written" s_law_written (He.ga K "_law_written") fd_law_written := fun_ofD F_law_written
  have g_law_written : mg "_law_written" = some (.ref (He.ga K "_law_written")) := He.glo_ok X G (c.fact 37 (f := .glo "_law_written") rfl)
  have b_law_written : Binds K fd_law_written ["mail"] [] := F_law_written.binds fun _ _ _ _ _ _ us hl => match us, hl with | [_], _ => rfl
  obtain ⟨fd_law_both_ways, F_law_both_ways⟩ := c.def_ 38 (d := d_law_both_ways) rfl
  have F_law_both_ways : Fun K "_law_both_ways" "_law_both_ways" s_law_both_ways (He.ga K "_law_both_ways") fd_law_both_ways := fun_ofD F_law_both_ways
  have g_law_both_ways : mg "_law_both_ways" = some (.ref (He.ga K "_law_both_ways")) := He.glo_ok X G (c.fact 38 (f := .glo "_law_both_ways") rfl)
  have b_law_both_ways : Binds K fd_law_both_ways ["mail"] [] := F_law_both_ways.binds fun _ _ _ _ _ _ us hl => match us, hl with | [_], _ => rfl
  obtain ⟨fd_law_pull, F_law_pull⟩ := c.def_ 29 (d := d_law_pull) rfl
  have F_law_pull : Fun K "_law_pull" "_law_pull" s_law_pull (He.ga K "_law_pull") fd_law_pull := fun_ofD F_law_pull
  have g_law_pull : mg "_law_pull" = some (.ref (He.ga K "_law_pull")) := He.glo_ok X G (c.fact 29 (f := .glo "_law_pull") rfl)
  have b_law_pull : Binds K fd_law_pull ["pot", "size"] [] := F_law_pull.binds fun _ _ _ _ _ _ us hl => match us, hl with | [_, _], _ => rfl
  obtain ⟨fd_law_number, F_law_number⟩ := c.def_ 31 (d := d_law_number) rfl
  have F_law_number : Fun K "_law_number" "_law_number" s_law_number (He.ga K "_law_number") fd_law_number := fun_ofD F_law_number
  have g_law_number : mg "_law_number" = some (.ref (He.ga K "_law_number")) := He.glo_ok X G (c.fact 31 (f := .glo "_law_number") rfl)
  have b_law_number : Binds K fd_law_number ["pot", "least"] [] := F_law_number.binds fun _ _ _ _ _ _ us hl => match us, hl with | [_, _], _ => rfl
  obtain ⟨fd_law_phrase, F_law_phrase⟩ := c.def_ 30 (d := d_law_phrase) rfl
  have F_law_phrase : Fun K "_law_phrase" "_law_phrase" s_law_phrase (He.ga K "_law_phrase") fd_law_phrase := fun_ofD F_law_phrase
  have g_law_phrase : mg "_law_phrase" = some (.ref (He.ga K "_law_phrase")) := He.glo_ok X G (c.fact 30 (f := .glo "_law_phrase") rfl)
  have b_law_phrase : Binds K fd_law_phrase ["pot"] [] := F_law_phrase.binds fun _ _ _ _ _ _ us hl => match us, hl with | [_], _ => rfl
  obtain ⟨fd_law_mail, F_law_mail⟩ := c.def_ 32 (d := d_law_mail) rfl
  have F_law_mail : Fun K "_law_mail" "_law_mail" s_law_mail (He.ga K "_law_mail") fd_law_mail := fun_ofD F_law_mail
  have g_law_mail : mg "_law_mail" = some (.ref (He.ga K "_law_mail")) := He.glo_ok X G (c.fact 32 (f := .glo "_law_mail") rfl)
  have b_law_mail : Binds K fd_law_mail ["pot", "sender"] [] := F_law_mail.binds fun _ _ _ _ _ _ us hl => match us, hl with | [_, _], _ => rfl
  obtain ⟨fd_law_right, F_law_right⟩ := c.def_ 39 (d := d_law_right) rfl
  have F_law_right : Fun K "_law_right" "_law_right" s_law_right (He.ga K "_law_right") fd_law_right := fun_ofD F_law_right
  have g_law_right : mg "_law_right" = some (.ref (He.ga K "_law_right")) := He.glo_ok X G (c.fact 39 (f := .glo "_law_right") rfl)
  have b_law_right : Binds K fd_law_right ["pot"] [] := F_law_right.binds fun _ _ _ _ _ _ us hl => match us, hl with | [_], _ => rfl
  obtain ⟨fd_law_cell, F_law_cell⟩ := c.def_ 27 (d := d_law_cell) rfl
  have F_law_cell : Fun K "_law_cell" "_law_cell" s_law_cell (He.ga K "_law_cell") fd_law_cell := fun_ofD F_law_cell
  have g_law_cell : mg "_law_cell" = some (.ref (He.ga K "_law_cell")) := He.glo_ok X G (c.fact 27 (f := .glo "_law_cell") rfl)
  have b_law_cell : Binds K fd_law_cell ["script", "k"] [] := F_law_cell.binds fun _ _ _ _ _ _ us hl => match us, hl with | [_, _], _ => rfl
  obtain ⟨fd_law_pot, F_law_pot⟩ := c.def_ 28 (d := d_law_pot) rfl
  have F_law_pot : Fun K "_law_pot" "_law_pot" s_law_pot (He.ga K "_law_pot") fd_law_pot := fun_ofD F_law_pot
  have g_law_pot : mg "_law_pot" = some (.ref (He.ga K "_law_pot")) := He.glo_ok X G (c.fact 28 (f := .glo "_law_pot") rfl)
  have b_law_pot : Binds K fd_law_pot ["cell"] [] := F_law_pot.binds fun _ _ _ _ _ _ us hl => match us, hl with | [_], _ => rfl
  obtain ⟨fd_law, F_law⟩ := c.def_ 40 (d := d_law) rfl
  have F_law : Fun K "law" "law" s_law (He.ga K "law") fd_law := fun_ofD F_law
  have g_law : mg "law" = some (.ref (He.ga K "law")) := He.glo_ok X G (c.fact 40 (f := .glo "law") rfl)
  have b_law : Binds K fd_law ["script"] [] := F_law.binds fun _ _ _ _ _ _ us hl => match us, hl with | [_], _ => rfl
  have gB : mg "BODIES" = some (.ref (He.ga K "BODIES")) := He.glo_ok X G (c.fact 41 (f := .glo "BODIES") rfl)
  have sides : GTup K mg "SIDES" ["a", "b"] := by
    have g := He.glo_ok X G (c.fact 42 (f := .glo "SIDES") rfl)
    rcases He.tupB_ok hsd (fun _ => none) with q | ⟨o, its, n, q1, q2, q3, q4, q5⟩
    · rcases q with q | ⟨_, q⟩ <;> cases q
    · exact ⟨_, o, its, n, g, q1, q2, q3, q4, q5⟩
  have T : Txt K mg := ⟨He.free_ok X G (c.fact 43 (f := .free "type") rfl), He.free_ok X G (c.fact 44 (f := .free "int") rfl), He.free_ok X G (c.fact 45 (f := .free "bool") rfl), He.free_ok X G (c.fact 46 (f := .free "str") rfl), He.free_ok X G (c.fact 47 (f := .free "tuple") rfl), He.free_ok X G (c.fact 48 (f := .free "len") rfl), He.free_ok X G (c.fact 49 (f := .free "all") rfl), He.free_ok X G (c.fact 50 (f := .free "isinstance") rfl), He.free_ok X G (c.fact 51 (f := .free "abs") rfl), He.free_ok X G (c.fact 52 (f := .free "divmod") rfl), He.free_ok X G (c.fact 53 (f := .free "list") rfl), He.free_ok X G (c.fact 54 (f := .free "min") rfl), He.free_ok X G (c.fact 55 (f := .free "max") rfl), He.free_ok X G (c.fact 56 (f := .free "range") rfl), He.free_ok X G (c.fact 57 (f := .free "repr") rfl), He.free_ok X G (c.fact 58 (f := .free "enumerate") rfl), He.int_ok X G (c.fact 59 (f := .int "MOST_SIGNS" 20) rfl), He.int_ok X G (c.fact 60 (f := .int "MOST_NUMBER" 9999) rfl), He.int_ok X G (c.fact 61 (f := .int "MOST_ROUND" 999) rfl), He.str_ok X G (c.fact 62 (f := .str "TEXT_SIGNS" "abcdefghijklmnopqrstuvwxyz0123456789 ") rfl), He.str_ok X G (c.fact 63 (f := .str "SIGNS" "abcdefghijklmnopqrstuvwxyz0123456789 =|,") rfl), He.str_ok X G (c.fact 64 (f := .str "FIGURES" "0123456789") rfl), He.str_ok X G (c.fact 65 (f := .str "LENGTH" "length=") rfl), He.str_ok X G (c.fact 66 (f := .str "SUM" "sum=") rfl), He.int_ok X G (c.fact 67 (f := .int "MOST_FIGURES" 5) rfl), He.int_ok X G (c.fact 68 (f := .int "SUM_BELOW" 997) rfl), sides⟩
  have hTab := h2
  have dB : ∃ es n, KDict K w (He.ga K "BODIES") es n := He.dicW_ok h2
  have nB : ∀ z, PySem.W.nsIn K (He.ga K "BODIES") z = some ((adK K z).map Value.ref) := by
    intro z
    by_cases h0 : z = "word"
    · subst h0
      obtain ⟨u, e, r⟩ := He.valsB_ok hv (q := ("word", .glo "_is_word")) (List.mem_of_getElem? (i := 0) rfl)
      cases r
      exact e
    by_cases h1 : z = "beat"
    · subst h1
      obtain ⟨u, e, r⟩ := He.valsB_ok hv (q := ("beat", .glo "_is_beat")) (List.mem_of_getElem? (i := 1) rfl)
      cases r
      exact e
    by_cases h2 : z = "test"
    · subst h2
      obtain ⟨u, e, r⟩ := He.valsB_ok hv (q := ("test", .glo "_is_test")) (List.mem_of_getElem? (i := 2) rfl)
      cases r
      exact e
    by_cases h3 : z = "ask"
    · subst h3
      obtain ⟨u, e, r⟩ := He.valsB_ok hv (q := ("ask", .glo "_is_ask")) (List.mem_of_getElem? (i := 3) rfl)
      cases r
      exact e
    by_cases h4 : z = "fill"
    · subst h4
      obtain ⟨u, e, r⟩ := He.valsB_ok hv (q := ("fill", .glo "_is_fill")) (List.mem_of_getElem? (i := 4) rfl)
      cases r
      exact e
    by_cases h5 : z = "hello"
    · subst h5
      obtain ⟨u, e, r⟩ := He.valsB_ok hv (q := ("hello", .glo "_is_hello")) (List.mem_of_getElem? (i := 5) rfl)
      cases r
      exact e
    by_cases h6 : z = "bye"
    · subst h6
      obtain ⟨u, e, r⟩ := He.valsB_ok hv (q := ("bye", .glo "_is_bye")) (List.mem_of_getElem? (i := 6) rfl)
      cases r
      exact e
    have e : adK K z = none := by
      unfold adK
      rw [if_neg h0, if_neg h1, if_neg h2, if_neg h3, if_neg h4, if_neg h5, if_neg h6]
    rw [e]
    refine nsIn_none (P := w.params) (ks := tks) hTab ?_
    · simp only [tks, List.mem_cons, List.not_mem_nil, or_false, not_or]
      exact ⟨h0, h1, h2, h3, h4, h5, h6⟩
  have noB : ∀ z, adK K z = none → bodyFn z = none := by
    intro z e
    unfold adK at e
    unfold bodyFn
    split at e <;> first | (cases e; done) | skip
    split at e <;> first | (cases e; done) | skip
    split at e <;> first | (cases e; done) | skip
    split at e <;> first | (cases e; done) | skip
    split at e <;> first | (cases e; done) | skip
    split at e <;> first | (cases e; done) | skip
    split at e <;> first | (cases e; done) | skip
    rename_i k0 k1 k2 k3 k4 k5 k6
    rw [if_neg k0, if_neg k1, if_neg k2, if_neg k3, if_neg k4, if_neg k5, if_neg k6]
  have e0 := hfa.symm.trans g_law
  cases e0
  refine ⟨fd_law, fun s u => by
    have q := F_law.ex
    obtain ⟨oc, od, kV, doc, pm, an, cdv, ct, osl, rfl, _, _⟩ := q
    exact .of_eq rfl, fun base _ _ => ?_⟩
  have D_is_whole : DefP P w K mg base "is_whole" 1 FisWhole := fun R => ⟨⟨_, _, _, ok_is_whole F_is_whole T, g_is_whole, F_is_whole.kp, b_is_whole⟩⟩
  have D_is_truth : DefP P w K mg base "is_truth" 1 (F1 isTruth) := fun R => ⟨⟨_, _, _, ok_is_truth F_is_truth T, g_is_truth, F_is_truth.kp, b_is_truth⟩⟩
  have D_is_side : DefP P w K mg base "is_side" 1 (F1 isSide) := fun R => ⟨⟨_, _, _, ok_is_side F_is_side T, g_is_side, F_is_side.kp, b_is_side⟩⟩
  have D_is_text : DefP P w K mg base "is_text" 1 (F1 isText) := fun R => ⟨⟨_, _, _, ok_is_text F_is_text T, g_is_text, F_is_text.kp, b_is_text⟩⟩
  have D_is_word : DefP P w K mg base "_is_word" 2 (FP wordP) := fun R => ⟨⟨_, _, _, ok_is_word F_is_word T D_is_text, g_is_word, F_is_word.kp, b_is_word⟩⟩
  have D_is_beat : DefP P w K mg base "_is_beat" 2 (FP beatP) := fun R => ⟨⟨_, _, _, ok_is_beat F_is_beat T D_is_whole, g_is_beat, F_is_beat.kp, b_is_beat⟩⟩
  have D_is_test : DefP P w K mg base "_is_test" 2 (FP testP) := fun R => ⟨⟨_, _, _, ok_is_test F_is_test T D_is_whole, g_is_test, F_is_test.kp, b_is_test⟩⟩
  have D_is_ask : DefP P w K mg base "_is_ask" 2 (FP askP) := fun R => ⟨⟨_, _, _, ok_is_ask F_is_ask T D_is_whole, g_is_ask, F_is_ask.kp, b_is_ask⟩⟩
  have D_is_fill : DefP P w K mg base "_is_fill" 2 (FP fillP) := fun R => ⟨⟨_, _, _, ok_is_fill F_is_fill T D_is_whole, g_is_fill, F_is_fill.kp, b_is_fill⟩⟩
  have D_is_hello : DefP P w K mg base "_is_hello" 2 (FP helloP) := fun R => ⟨⟨_, _, _, ok_is_hello F_is_hello T D_is_whole D_is_truth, g_is_hello, F_is_hello.kp, b_is_hello⟩⟩
  have D_is_bye : DefP P w K mg base "_is_bye" 1 (FP byeP) := fun R => ⟨⟨_, _, _, ok_is_bye F_is_bye T, g_is_bye, F_is_bye.kp, b_is_bye⟩⟩
  have D_has_word : DefP P w K mg base "has_word" 1 (F1 hasWord) := fun R => ⟨⟨_, _, _, ok_has_word F_has_word T, g_has_word, F_has_word.kp, b_has_word⟩⟩
  have yB : ∀ z f, adK K z = some f → ∃ g, bodyFn z = some g ∧ ∀ R : Res, HeldG P w K mg base 2 f (spD K R (FP g)) := by
    intro z f e
    unfold adK at e
    unfold bodyFn
    by_cases h0 : z = "word"
    · rw [if_pos h0] at e ⊢
      cases e
      exact ⟨_, rfl, fun R => ⟨⟨_, _, (ok_is_word F_is_word T D_is_text), F_is_word.kp, b_is_word⟩⟩⟩
    rw [if_neg h0] at e
    rw [if_neg h0]
    by_cases h1 : z = "beat"
    · rw [if_pos h1] at e ⊢
      cases e
      exact ⟨_, rfl, fun R => ⟨⟨_, _, (ok_is_beat F_is_beat T D_is_whole), F_is_beat.kp, b_is_beat⟩⟩⟩
    rw [if_neg h1] at e
    rw [if_neg h1]
    by_cases h2 : z = "test"
    · rw [if_pos h2] at e ⊢
      cases e
      exact ⟨_, rfl, fun R => ⟨⟨_, _, (ok_is_test F_is_test T D_is_whole), F_is_test.kp, b_is_test⟩⟩⟩
    rw [if_neg h2] at e
    rw [if_neg h2]
    by_cases h3 : z = "ask"
    · rw [if_pos h3] at e ⊢
      cases e
      exact ⟨_, rfl, fun R => ⟨⟨_, _, (ok_is_ask F_is_ask T D_is_whole), F_is_ask.kp, b_is_ask⟩⟩⟩
    rw [if_neg h3] at e
    rw [if_neg h3]
    by_cases h4 : z = "fill"
    · rw [if_pos h4] at e ⊢
      cases e
      exact ⟨_, rfl, fun R => ⟨⟨_, _, (ok_is_fill F_is_fill T D_is_whole), F_is_fill.kp, b_is_fill⟩⟩⟩
    rw [if_neg h4] at e
    rw [if_neg h4]
    by_cases h5 : z = "hello"
    · rw [if_pos h5] at e ⊢
      cases e
      exact ⟨_, rfl, fun R => ⟨⟨_, _, (ok_is_hello F_is_hello T D_is_whole D_is_truth), F_is_hello.kp, b_is_hello⟩⟩⟩
    rw [if_neg h5] at e
    rw [if_neg h5]
    by_cases h6 : z = "bye"
    · rw [if_pos h6] at e ⊢
      cases e
      exact ⟨_, rfl, fun R => ⟨⟨_, _, (ok_is_bye F_is_bye T).mono (by decide), F_is_bye.kp, b_is_bye⟩⟩⟩
    rw [if_neg h6] at e
    rw [if_neg h6]
    cases e
  have B : Bod P w K mg base (He.ga K "BODIES") (adK K) := ⟨gB, dB, nB, yB, noB⟩
  have D_is_body : DefP P w K mg base "is_body" 3 (F1 isBody) := fun R => ⟨⟨_, _, _, ok_is_body F_is_body T B D_has_word, g_is_body, F_is_body.kp, b_is_body⟩⟩
  have D_go_together : DefP P w K mg base "_go_together" 1 FgoT := fun R => ⟨⟨_, _, _, ok_go_together F_go_together, g_go_together, F_go_together.kp, b_go_together⟩⟩
  have D_is_letter : DefP P w K mg base "is_letter" 4 (F1 isLetter) := fun R => ⟨⟨_, _, _, ok_is_letter F_is_letter T D_is_side D_is_whole D_is_truth D_is_body D_go_together, g_is_letter, F_is_letter.kp, b_is_letter⟩⟩
  have D_need_letter : DefP P w K mg base "need_letter" 5 (FletterP fun _ => .non) := fun R => ⟨⟨_, _, _, ok_need_letter F_need_letter T D_is_letter, g_need_letter, F_need_letter.kp, b_need_letter⟩⟩
  have D_show_part : DefP P w K mg base "show_part" 1 FshowP := fun R => ⟨⟨_, _, _, ok_show_part F_show_part T, g_show_part, F_show_part.kp, b_show_part⟩⟩
  have D_show_parts : DefP P w K mg base "show_parts" 2 FshowPs := fun R => ⟨⟨_, _, _, ok_show_parts F_show_parts T D_show_part, g_show_parts, F_show_parts.kp, b_show_parts⟩⟩
  have D_is_number : DefP P w K mg base "is_number" 1 (FtextB fun x => .bl (isNumS x)) := fun R => ⟨⟨_, _, _, ok_is_number F_is_number T, g_is_number, F_is_number.kp, b_is_number⟩⟩
  have D_read_part : DefP P w K mg base "read_part" 2 (FtextB readP) := fun R => ⟨⟨_, _, _, ok_read_part F_read_part T D_is_number, g_read_part, F_read_part.kp, b_read_part⟩⟩
  have D_sum_of : DefP P w K mg base "_sum_of" 1 (FtextB fun x => .int (sumS x)) := fun R => ⟨⟨_, _, _, ok_sum_of F_sum_of T, g_sum_of, F_sum_of.kp, b_sum_of⟩⟩
  have D_show_ahead : DefP P w K mg base "_show_ahead" 3 (FletterP fun d => .str (aheadD d)) := fun R => ⟨⟨_, _, _, ok_show_ahead F_show_ahead T D_show_part D_show_parts, g_show_ahead, F_show_ahead.kp, b_show_ahead⟩⟩
  have D_show_letter : ∀ R : Res, DefK P w K mg base "show_letter" "letter" 6 (spD K R (FletterP fun d => .str (closeS (aheadD d)))) := fun R => ⟨⟨_, _, ok_show_letter F_show_letter T D_need_letter D_show_ahead D_sum_of, g_show_letter, F_show_letter.kp, b_show_letter, fun s u => by obtain ⟨oc, od, kV, doc, pm, an, cdv, ct, osl, rfl, _, _⟩ := F_show_letter.ex; exact .of_eq rfl⟩⟩
  have D_is_numbered : DefP P w K mg base "_is_numbered" 2 FnumD := fun R => ⟨⟨_, _, _, ok_is_numbered F_is_numbered T D_is_number, g_is_numbered, F_is_numbered.kp, b_is_numbered⟩⟩
  have D_read_body : DefP P w K mg base "_read_body" 3 (fun ds q => ∃ x, ds = [.str x] ∧ x.length ≤ 100000 ∧ q (readB x)) := fun R => ⟨⟨_, _, _, ok_read_body F_read_body T D_read_part, g_read_body, F_read_body.kp, b_read_body⟩⟩
  have D_read_ahead : DefP P w K mg base "_read_ahead" 5 (fun ds q => ∃ d, ds = [.str (aheadD d)] ∧ okD d ∧ isLetter d = true ∧ q d) := fun R => ⟨⟨_, _, _, ok_read_ahead F_read_ahead T D_read_part D_read_body D_is_letter D_show_ahead, g_read_ahead, F_read_ahead.kp, b_read_ahead⟩⟩
  have D_read_letter : ∀ R : Res, DefK P w K mg base "read_letter" "text" 6 (spD K R (fun ds q => ∃ d, ds = [.str (closeS (aheadD d))] ∧ okD d ∧ isLetter d = true ∧ q d)) := fun R => ⟨⟨_, _, ok_read_letter F_read_letter T D_is_numbered D_sum_of D_read_ahead, g_read_letter, F_read_letter.kp, b_read_letter, fun s u => by obtain ⟨oc, od, kV, doc, pm, an, cdv, ct, osl, rfl, _, _⟩ := F_read_letter.ex; exact .of_eq rfl⟩⟩
  have N_law_is : ∀ (n : Nat) {R : Res}, FnG P w K mg base (n + 1) (He.ga K "_law_is") fd_law_is ["found", "due_here"] (spD K R (FisN n)) := by
    intro n
    induction n with
    | zero => exact ⟨fun vs H Q E ⟨_, _, _, _, h, _⟩ => h.elim, fun A outer s H args us vs Q E hr hg e0 hb r ⟨_, _, _, _, h, _⟩ => h.elim⟩
    | succ n ih => exact ok_law_is F_law_is T fun R => ⟨⟨_, _, _, ih, g_law_is, F_law_is.kp, b_law_is⟩⟩
  have D_law_is : DefP P w K mg base "_law_is" 4 (FisN 3) := fun R => ⟨⟨_, _, _, N_law_is 3, g_law_is, F_law_is.kp, b_law_is⟩⟩
  have D_law_shown : DefP P w K mg base "_law_shown" 1 FshowP := fun R => ⟨⟨_, _, _, ok_law_shown F_law_shown T, g_law_shown, F_law_shown.kp, b_law_shown⟩⟩
  have D_law_total : DefP P w K mg base "_law_total" 1 (FtextB fun x => .int (sumS x)) := fun R => ⟨⟨_, _, _, ok_law_total F_law_total T, g_law_total, F_law_total.kp, b_law_total⟩⟩
  have D_law_closed : DefP P w K mg base "_law_closed" 2 (fun ds q => ∃ x, ds = [.str x] ∧ x.length ≤ 90 ∧ q (.str (closeS x))) := fun R => ⟨⟨_, _, _, ok_law_closed F_law_closed T D_law_total, g_law_closed, F_law_closed.kp, b_law_closed⟩⟩
  have D_law_written : DefP P w K mg base "_law_written" 3 (FletterP fun d => .str (closeS (aheadD d))) := fun R => ⟨⟨_, _, _, ok_law_written F_law_written T D_law_shown D_law_closed, g_law_written, F_law_written.kp, b_law_written⟩⟩
  have D_law_both_ways : DefP P w K mg base "_law_both_ways" 7 (FletterP fun _ => .bl true) := fun R => ⟨⟨_, _, _, ok_law_both_ways F_law_both_ways T D_law_written D_show_letter D_read_letter D_law_is, g_law_both_ways, F_law_both_ways.kp, b_law_both_ways⟩⟩
  have D_law_pull : ∀ a, DefPot P w K mg base a "_law_pull" 1 (Fpull a) := fun a R hp => ⟨⟨_, _, _, ok_law_pull hp F_law_pull T, g_law_pull, F_law_pull.kp, b_law_pull⟩⟩
  have D_law_number : ∀ a, DefPot P w K mg base a "_law_number" 2 (Fnumber a) := fun a R hp => ⟨⟨_, _, _, ok_law_number hp F_law_number T (D_law_pull a), g_law_number, F_law_number.kp, b_law_number⟩⟩
  have D_law_phrase : ∀ a, DefPot P w K mg base a "_law_phrase" 2 (Fphrase a) := fun a R hp => ⟨⟨_, _, _, ok_law_phrase hp F_law_phrase T (D_law_pull a), g_law_phrase, F_law_phrase.kp, b_law_phrase⟩⟩
  have D_law_mail : ∀ a, DefPot P w K mg base a "_law_mail" 3 (Fmail a) := fun a R hp => ⟨⟨_, _, _, ok_law_mail hp F_law_mail T (D_law_pull a) (D_law_number a) (D_law_phrase a), g_law_mail, F_law_mail.kp, b_law_mail⟩⟩
  have D_law_right : Def P w K mg base "_law_right" 9 (spAnyPot K Fright) := ⟨⟨_, _, _, fn_anyPot fun a => ok_law_right (PotAt.one a) F_law_right T (D_law_pull a) (D_law_mail a) D_law_both_ways D_show_letter, g_law_right, F_law_right.kp, b_law_right⟩⟩
  have D_law_cell : ∀ (a : Addr) (ns : List Int), ns.length ≤ 16777216 → ∀ {R : Res}, ScrAt K a ns R → Def P w K mg base "_law_cell" 1 (spD K R (Fcell a)) := fun a ns hns R hS => ⟨⟨_, _, _, ok_law_cell hS hns F_law_cell T, g_law_cell, F_law_cell.kp, b_law_cell⟩⟩
  have D_law_pot : Def P w K mg base "_law_pot" 1 spPot := ⟨⟨_, _, _, ok_law_pot F_law_pot T, g_law_pot, F_law_pot.kp, b_law_pot⟩⟩
  refine ⟨fun vs H Q E ⟨a, ns, e, _⟩ => by rw [e]; rfl, fun A outer s H args us vs Q E hr hg e0 hb r ⟨a, ns, ev, hS, hl, hq⟩ => ?_⟩
  obtain ⟨R, _, hs, hscr⟩ := scr_ex hS
  have hz : ns.length ≤ 16777216 := by omega
  exact (ok_law hscr hz F_law T (D_law_cell a ns hz) D_law_pot D_law_right D_show_letter D_law_closed).run A outer s H args us vs Q E hr hg e0 hb r ⟨[.ptr a], fun d => d = .bl true, by rw [ev]; exact .cons (.ptr a) .nil, hs, ⟨rfl, rfl⟩, fun d v H' e rv _ _ => by subst e; cases rv; exact hq H'⟩
theorem walk {l : PySem.W.OpenLaw} {q : Program} {loose : List Str} {XP : (Str → Option Value) → Heap → Prop} {YP : World → Heap → Prop} {d : DefRec} {K : Params → PySem.W.Frag} (hn : l.most = some 63) (hdf : d.params.defaults = []) (hnm : d.name = ("law" : Str)) (hY : ∀ (w : World) (h : Heap), YP w h → (K w.params).In h)
   (h1 : ∀ w : World, fa.all (fun f => f.ok (K w.params)) = true) (h1b : ∀ w : World, fn.all (fun f => f.ok (K w.params)) = true) (h1c : ∀ w : World, fn.map (fun d => He.fnW (K w.params) d.at_) = fn.map He.DefD.val)
   (h2 : ∀ w : World, He.dicW (K w.params) (He.ga (K w.params) "BODIES") = some (He.keysIn w.params tks)) (h3 : ∀ w : World, ex (K w.params) = true) : PySem.W.WalkO q loose XP YP l.row.toRowW d [] (fun f vs => PySem.call f vs) :=
  walk_G (n := 63) (k := 10) (x := "script") hn (by rw [sizeLine_eq]; decide) hdf ⟨rfl, by decide, by decide⟩ fun w mg fa h Y G hmg => by
    rw [hnm] at hmg
    obtain ⟨fd, hb, hF⟩ := facts (P := l.prog) (w := w) (hY w h Y) G hmg (h1 w) (h1b w) (h1c w) (h2 w) (h3 w)
    exact ⟨K w.params, fd, hY w h Y, hb, hF⟩
end K3

set_option Elab.async false
set_option linter.all false
set_option maxRecDepth 100000
open PySem PySem.W PyProof.Rows in
set_option maxRecDepth 100000 in
set_option maxHeartbeats 0 in
theorem PySem.Challenge.cw_gapfill_k03_letters_written_and_read_holds : PySem.Challenge.rw_gapfill_k03_letters_written_and_read.Holds := by
  w_on; o_law; k_head; (case hw => w_witness2)
  k_fill
  refine K3.walk (l := PySem.Challenge.rw_gapfill_k03_letters_written_and_read) rfl rfl rfl (fun w h Y => PySem.W.kIn_of Y) ?h1 ?h1b ?h1c ?h2 ?h3
  case h1 => intro w; kernel_rfl
  case h1b => intro w; kernel_rfl
  case h1c => intro w; kernel_rfl
  case h2 => intro w; kernel_rfl
  case h3 => intro w; kernel_rfl
