import PyProof.Rows.All
import Wide.All
import OpenK.AllK
import Wide.FinOn
import KE.OsRunLaw
import HandS.ForMost
import HandS.ForExc
import HandS.Evl
import HandS.Flow
import HandS.Wide
import HandS.WideMore
import HandS.WideBits
import HandS.IsInst
import HandS.Strs
import HandS.SetKeys
import HandS.Conv
import HandS.StrMore
import HandS.ExcOwn
import HandS.TryMany
import HandS.RaiseMore
import HandS.Deep
import HandS.Zip
import HandS.Lambda
import HandS.TupAny
import HandS.TupLe
import KE.SortData
import PyProof.ReprReads
import PyProof.P3In
import HandS.WordsExc
import HandS.EndBits
import PyProof.ReprRoads
import HandS.Text
import HandS.TupLen
import HandS.WordsDict
import HandS.Style
import HandS.Iter
import KE.GoesZip
import KE.GoesMore
import HandS.Dict
import HandS.ExcIs
import HandS.Set
import HandS.SetFor
import HandS.Property
import HandS.More
import HandS.DictComp
import HandS.Star
import HandS.ClsMeth
import HandS.CallLocal
import HandS.FStr
import HandS.HeadHook3
import KE.KTupSum
import PyProof.EnumMake
import PyProof.EnumFor
import PyProof.Draws
import HandS.TryOnly
import OpenK.KMeth
import KE.KOpsOwn
import KE.DataAny
import HandS.OwnEq
import KE.DataMinMax
import KE.KDictList
import PyProof.SumAny
import HandS.Defaults
import HandS.DictEq
import HandS.DictTup
import KE.KItemsList
import HandS.TupSets
import HandS.EndTab
import KE.KNest
import PyProof.ExcBaseAll.IndexError
import PyProof.ExcBaseAll.OverflowError
import PyProof.ExcBaseAll.ArithmeticError
import PyProof.TupleCall
import KE.KExcInit
import HandS.ForSpec
import HandS.ExcInit
import HandS.ExcField
import PyProof.ListStr
import PyProof.StrBlock2
import HandS.TupMul
import KE.GoesComp
import HandS.GenList
import HandS.GenYield
import PyProof.EqKinds
import PyProof.FactsAll.dict_1
import KE.IntBitsLaws
import PyProof.StrLawsRepr
import PyProof.P3Eq
import KE.DataCmp
import PySem.Challenge.RW_loneguess_k42_whole_trees_by_their_rules
set_option Elab.async false
set_option linter.all false
set_option maxRecDepth 100000
set_option maxHeartbeats 4000000
namespace DL
open PySem PySem.Spec PyProof.Rows L2
inductive D where
  | non | bl (b : Bool) | int (i : Int) | str (x : Str)
  | lst (xs : List D) | tup (xs : List D)
  /-- a list that is only read (the script) -/
  | scr (ns : List Int)
  | dic (kvs : List (D × D))
  /-- a dict that is read only from now on -/
  | dcl (kvs : List (Key × D))
  | ins (c : Str) (fs : List (Str × D))
  /-- a class of one's own -/
  | cls (c : Str)
  /-- a tuple of keys, made here -/
  | tuk (ks : List Key)
  /-- a dict with tuples as keys, read only from now on: its keys -/
  | dct (kss : List (List Key))
/-- what a local name holds that the def itself changes -/
inductive Cel where
  | l (xs : List D)
  | dk (kvs : List (Key × D))
  | dt (kvs : List (List Key × D))
  | i (me : Addr) (c : Str) (fs : List (Str × D))
/-- a slot: nothing that is known; a value; an object of one's own; the pot -/
inductive Sl where
  | un | v (d : D) | o (c : Cel) | p
/-- an exception: its class, what it keeps -/
structure Ex where
  c : Str
  kept : Option (Str × D) := none
abbrev Pot := Option (List D)
inductive Res (α : Type) where
  | ok (a : α) (p : Pot)
  | ex (e : Ex) (p : Pot)
  | no
abbrev M (α : Type) := Pot → Res α
def M.pure {α : Type} (a : α) : M α := fun p => .ok a p
def M.bind {α β : Type} (m : M α) (k : α → M β) : M β := fun p => match m p with
  | .ok a p' => k a p'
  | .ex e p' => .ex e p'
  | .no => .no
instance : Monad M where
  pure := M.pure
  bind := M.bind
def M.no {α : Type} : M α := fun _ => .no
def M.raise {α : Type} (e : Ex) : M α := fun p => .ex e p
def M.some {α : Type} : Option α → M α
  | .some a => M.pure a
  | .none => M.no
theorem bind_ok {α β : Type} {m : M α} {k : α → M β} {p p' : Pot} {a : α} (h : m p = .ok a p') : (m >>= k) p = k a p' := by
  show M.bind m k p = _
  unfold M.bind; rw [h]
section
variable (mg : Str → Option Value) (K : PySem.W.Frag) (G : Hp)
def keyD : Key → D
  | .inl i => .int i
  | .inr x => .str x
inductive Rep : V → D → Prop
  | non : Rep .non .non
  | bl (b : Bool) : Rep (.bl b) (.bl b)
  | int (i : Int) : Rep (.int i) (.int i)
  | str (x : Str) : Rep (.str x) (.str x)
  | lst {a : Addr} {vs : List V} {ds : List D} (h : G a = .some (.lst vs)) (l : vs.length = ds.length) (r : ∀ (i : Nat) v d, vs[i]? = .some v → ds[i]? = .some d → Rep v d) : Rep (.ref a) (.lst ds)
  | tup {a : Addr} {vs : List V} {ds : List D} (h : SqT K G a vs) (l : vs.length = ds.length) (r : ∀ (i : Nat) v d, vs[i]? = .some v → ds[i]? = .some d → Rep v d) : Rep (.ref a) (.tup ds)
  | scr {a : Addr} {ns : List Int} (h : SqL K G a (ns.map V.int)) : Rep (.ref a) (.scr ns)
  | dicK {a : Addr} {kvs : List (Key × V)} {ds : List (D × D)} (h : G a = .some (.dK kvs)) (k : kvs.map (fun p => keyD p.1) = ds.map (·.1)) (r : ∀ (i : Nat) (p : Key × V) (q : D × D), kvs[i]? = .some p → ds[i]? = .some q → Rep p.2 q.2) : Rep (.ref a) (.dic ds)
  | dicT {a : Addr} {kvs : List (List Key × V)} {ds : List (D × D)} (h : G a = .some (.dT kvs)) (k : kvs.map (fun p => D.tup (p.1.map keyD)) = ds.map (·.1)) (r : ∀ (i : Nat) (p : List Key × V) (q : D × D), kvs[i]? = .some p → ds[i]? = .some q → Rep p.2 q.2) : Rep (.ref a) (.dic ds)
  | dcl {a : Addr} {od : Obj} {kvs : List (Key × V)} {ds : List (Key × D)} (h : G a = .some (.frz od (.dK kvs))) (k : kvs.map (·.1) = ds.map (·.1)) (r : ∀ (i : Nat) (p : Key × V) (q : Key × D), kvs[i]? = .some p → ds[i]? = .some q → Rep p.2 q.2) : Rep (.ref a) (.dcl ds)
  | ins {a C dx : Addr} {c : Str} {fs : List (Str × V)} {ds : List (Str × D)} (h : G a = .some (.ins C dx fs)) (hc : mg c = .some (.ref C)) (k : fs.map (·.1) = ds.map (·.1)) (r : ∀ (i : Nat) (p : Str × V) (q : Str × D), fs[i]? = .some p → ds[i]? = .some q → Rep p.2 q.2) : Rep (.ref a) (.ins c ds)
  | cls {C : Addr} {c : Str} (hc : mg c = .some (.ref C)) : Rep (.ref C) (.cls c)
  | tuk {a : Addr} {ks : List Key} (h : G a = .some (.tup (ks.map kV))) : Rep (.ref a) (.tuk ks)
  | dct {a : Addr} {od : Obj} {kvs : List (List Key × V)} {kss : List (List Key)} (h : G a = .some (.frz od (.dT kvs))) (k : kvs.map (·.1) = kss) : Rep (.ref a) (.dct kss)
end
/-- lists of such -/
def Reps (mg : Str → Option Value) (K : PySem.W.Frag) (G : Hp) (vs : List V) (ds : List D) : Prop :=
  vs.length = ds.length ∧ ∀ (i : Nat) v d, vs[i]? = .some v → ds[i]? = .some d → Rep mg K G v d
/-- G' knows what G knows -/
abbrev Ext (G G' : Hp) : Prop := ∀ a o, G a = .some o → G' a = .some o
section
variable {mg : Str → Option Value} {K : PySem.W.Frag} {G G' : Hp}
theorem Rep.mono (e : Ext G G') {v : V} {d : D} (h : Rep mg K G v d) : Rep mg K G' v d := by
  induction h with
  | non => exact .non
  | bl b => exact .bl b
  | int i => exact .int i
  | str x => exact .str x
  | lst h l _ ih => exact .lst (e _ _ h) l ih
  | tup h l _ ih => exact .tup (Evl.ex_t e h) l ih
  | scr h => exact .scr (Evl.ex_l e h)
  | dicK h k _ ih => exact .dicK (e _ _ h) k ih
  | dicT h k _ ih => exact .dicT (e _ _ h) k ih
  | dcl h k _ ih => exact .dcl (e _ _ h) k ih
  | ins h hc k _ ih => exact .ins (e _ _ h) hc k ih
  | cls hc => exact .cls hc
  | tuk h => exact .tuk (e _ _ h)
  | dct h k => exact .dct (e _ _ h) k
theorem Reps.mono (e : Ext G G') {vs : List V} {ds : List D} (h : Reps mg K G vs ds) : Reps mg K G' vs ds := ⟨h.1, fun i v d a b => (h.2 i v d a b).mono e⟩
theorem Reps.nil : Reps mg K G [] [] := ⟨rfl, fun _ _ _ h _ => by simp at h⟩
theorem Reps.cons {v : V} {d : D} {vs : List V} {ds : List D} (h : Rep mg K G v d) (t : Reps mg K G vs ds) : Reps mg K G (v :: vs) (d :: ds) := by
  refine ⟨by simp [t.1], fun i w e a b => ?_⟩
  cases i with
  | zero => simp at a b; subst a; subst b; exact h
  | succ i => exact t.2 i w e (by simpa using a) (by simpa using b)
theorem Reps.head {v : V} {d : D} {vs : List V} {ds : List D} (t : Reps mg K G (v :: vs) (d :: ds)) : Rep mg K G v d := t.2 0 v d rfl rfl
theorem Reps.tail {v : V} {d : D} {vs : List V} {ds : List D} (t : Reps mg K G (v :: vs) (d :: ds)) : Reps mg K G vs ds :=
  ⟨by simpa using t.1, fun i w e a b => t.2 (i + 1) w e (by simpa using a) (by simpa using b)⟩
theorem Reps.nil_of {ds : List D} (t : Reps mg K G [] ds) : ds = [] := by
  have := t.1
  cases ds with
  | nil => rfl
  | cons _ _ => simp at this
theorem Reps.nil_of' {vs : List V} (t : Reps mg K G vs []) : vs = [] := by
  have := t.1
  cases vs with
  | nil => rfl
  | cons _ _ => simp at this
theorem Reps.append : ∀ {vs ws : List V} {ds es : List D}, Reps mg K G vs ds → Reps mg K G ws es → Reps mg K G (vs ++ ws) (ds ++ es)
  | [], _, ds, _, h, k => by rw [h.nil_of]; exact k
  | v :: vs, _, [], _, h, k => by have := h.1; simp at this
  | v :: vs, _, d :: ds, _, h, k => Reps.cons h.head (Reps.append h.tail k)
theorem Reps.get {vs : List V} {ds : List D} (h : Reps mg K G vs ds) {i : Nat} {d : D} (e : ds[i]? = .some d) : ∃ v, vs[i]? = .some v ∧ Rep mg K G v d := by
  have hi : i < vs.length := by rw [h.1]; exact (List.getElem?_eq_some_iff.mp e).1
  exact ⟨vs[i], List.getElem?_eq_getElem hi, h.2 i _ d (List.getElem?_eq_getElem hi) e⟩
theorem Reps.take {vs : List V} {ds : List D} (h : Reps mg K G vs ds) (n : Nat) : Reps mg K G (vs.take n) (ds.take n) := by
  refine ⟨by simp [h.1], fun i v d a b => ?_⟩
  rw [List.getElem?_take] at a b
  split at a
  · rename_i hi
    rw [if_pos hi] at b
    exact h.2 i v d a b
  · cases a
theorem Reps.drop {vs : List V} {ds : List D} (h : Reps mg K G vs ds) (n : Nat) : Reps mg K G (vs.drop n) (ds.drop n) := by
  refine ⟨by simp [h.1], fun i v d a b => ?_⟩
  rw [List.getElem?_drop] at a b
  exact h.2 _ v d a b
end
/-- the module: its names, its written part, the tables of code objects -/
structure Cn where
  mg : Str → Option Value
  K : PySem.W.Frag
  T : List (Addr × Str) := []
abbrev Cn.rep (c : Cn) : Hp → V → D → Prop := Rep c.mg c.K
abbrev Cn.reps (c : Cn) : Hp → List V → List D → Prop := Reps c.mg c.K
/-- the entry of a def: what is frozen, the heap, the pot's place -/
structure Fr where
  G0 : Hp
  H0 : Hp
  ap : Option Addr
def PotOk (c : Cn) (G H : Hp) : Option Addr → Pot → Prop
  | none, none => True
  | some a, some ds => ∃ vs, H a = some (.lst vs) ∧ c.reps G vs ds ∧ G a = none
  | _, _ => False
def noTbl (o : HO) : Prop := ∀ ps, o ≠ .tbl ps
/-- nothing is there, or a table of code objects -/
def Fre (H : Hp) (a : Addr) : Prop := ∀ o, H a = some o → ∃ ps, o = .tbl ps
theorem Fre.no {H : Hp} {a : Addr} {o : HO} (f : Fre H a) (e : H a = some o) (t : noTbl o) : False := by
  obtain ⟨ps, z⟩ := f o e
  exact t ps z
theorem Fre.of {H : Hp} {a : Addr} (h : H a = none) : Fre H a := fun o e => by rw [h] at e; cases e
structure Post (c : Cn) (ap : Option Addr) (G0 H0 : Hp) (P : Pot) (G H : Hp) : Prop where
  ext : Ext G0 G
  le : Ext G H
  fr : ∀ b o, H0 b = some o → some b ≠ ap → noTbl o → H b = some o
  new : ∀ a, G a ≠ none → G0 a ≠ none ∨ Fre H0 a ∨ ∃ vs, G a = some (.tup vs)
  pot : PotOk c G H ap P
  tab : LamX.Tabs c.T H
  nt : ∀ a o, G a = some o → noTbl o
def CelOk (c : Cn) (G : Hp) (a : Addr) : HO → Cel → Prop
  | .lst vs, .l ds => c.reps G vs ds
  | .dK kvs, .dk ds => kvs.map (·.1) = ds.map (·.1) ∧ c.reps G (kvs.map (·.2)) (ds.map (·.2))
  | .dT kvs, .dt ds => kvs.map (·.1) = ds.map (·.1) ∧ c.reps G (kvs.map (·.2)) (ds.map (·.2))
  | .ins C _ fs, .i me n ds => me = a ∧ c.mg n = some (.ref C) ∧ fs.map (·.1) = ds.map (·.1) ∧ c.reps G (fs.map (·.2)) (ds.map (·.2))
  | _, _ => False
structure Own (c : Cn) (F : Fr) (G H : Hp) (a : Addr) (x : Cel) : Prop where
  ob : ∃ o, H a = some o ∧ CelOk c G a o x
  g : G a = none
  h : Fre F.H0 a
  p : some a ≠ F.ap
def SlOk (c : Cn) (F : Fr) (G H : Hp) : Sl → Option V → Prop
  | .un, _ => True
  | .v d, x => ∃ v, x = some v ∧ c.rep G v d
  | .p, x => ∃ a, F.ap = some a ∧ x = some (.ref a)
  | .o k, x => ∃ a, x = some (.ref a) ∧ Own c F G H a k
structure Rel (c : Cn) (F : Fr) (ρ : List Sl) (P : Pot) (σ : L2.St) (H G : Hp) : Prop where
  post : Post c F.ap F.G0 F.H0 P G H
  len : σ.length = ρ.length
  sl : ∀ (i : Nat) s x, ρ[i]? = some s → σ[i]? = some x → SlOk c F G H s x
  ap : ∀ (i j : Nat) k k' a, ρ[i]? = some (.o k) → ρ[j]? = some (.o k') → σ[i]? = some (some (V.ref a)) → σ[j]? = some (some (V.ref a)) → i = j
/-- an exception as it lies -/
def ExOk (c : Cn) (H G : Hp) (e : Ex) (cl : Value) (dd : Option Addr) : Prop :=
  c.mg e.c = some cl ∧ match e.kept with
    | none => True
    | some (f, d) => ∃ a v, dd = some a ∧ H a = some (.xd [(f, v)]) ∧ c.rep G v d
/-- how a computation ends -/
def out {α : Type} (m : M α) (P : Pot) (ok : α → Pot → Prop) (ex : Ex → Pot → Prop) : Prop :=
  match m P with
  | .ok a p => ok a p
  | .ex e p => ex e p
  | .no => False
theorem out_bind {α β : Type} {m : M α} {k : α → M β} {P : Pot} {ok : β → Pot → Prop} {ex : Ex → Pot → Prop} : out (m >>= k) P ok ex ↔ out m P (fun a p => out (k a) p ok ex) ex := by
  show out (M.bind m k) P ok ex ↔ _
  unfold out M.bind
  cases m P <;> rfl
theorem out_mono {α : Type} {m : M α} {P : Pot} {ok ok' : α → Pot → Prop} {ex ex' : Ex → Pot → Prop} (h : out m P ok ex) (h1 : ∀ a p, ok a p → ok' a p) (h2 : ∀ e p, ex e p → ex' e p) : out m P ok' ex' := by
  unfold out at h ⊢
  cases e : m P with
  | ok a p => rw [e] at h; exact h1 _ _ h
  | ex x p => rw [e] at h; exact h2 _ _ h
  | no => rw [e] at h; exact h
theorem out_some {α : Type} {o : Option α} {P : Pot} {ok : α → Pot → Prop} {ex : Ex → Pot → Prop} : out (M.some o) P ok ex ↔ ∃ a, o = some a ∧ ok a P := by
  cases o with
  | none => exact ⟨fun h => h.elim, fun ⟨_, h, _⟩ => nomatch h⟩
  | some a => exact ⟨fun h => ⟨a, rfl, h⟩, fun ⟨_, h, k⟩ => by cases h; exact k⟩
section
variable (c : Cn) (F : Fr) (W : WX) (ρ : List Sl)
def exW (P0 : Pot) (G : Hp) (σ : L2.St) : Ex → Pot → Prop := fun e P' => ∀ cl dd H' G' ρ', Ext G G' → Rel c F ρ' P' σ H' G' → ExOk c H' G' e cl dd → W cl dd σ H'
/-- of blocks: the slots may have changed -/
def exS (P0 : Pot) (G : Hp) (σ : L2.St) : Ex → Pot → Prop := fun e P' => ∀ cl dd H' G' ρ' σ', Ext G G' → Rel c F ρ' P' σ' H' G' → ExOk c H' G' e cl dd → W cl dd σ' H'
def rdE (m : M D) : TE := fun σ H Q => ∃ P G, Rel c F ρ P σ H G ∧ out m P (fun d P' => ∀ v H' G', Ext G G' → Rel c F ρ P' σ H' G' → c.rep G' v d → Q v H') (exW c F W P G σ)
def rdT (m : M Bool) : TT := fun σ H Q => ∃ P G, Rel c F ρ P σ H G ∧ out m P (fun b P' => ∀ H' G', Ext G G' → Rel c F ρ P' σ H' G' → Q b H') (exW c F W P G σ)
/-- an argument: a value, or the pot -/
inductive Ar where
  | v (d : D) | p
def ArOk (G : Hp) : V → Ar → Prop
  | x, .v d => c.rep G x d
  | x, .p => ∃ a, F.ap = some a ∧ x = .ref a
def ArsOk (G : Hp) : List V → List Ar → Prop
  | [], [] => True
  | v :: vs, a :: as => ArOk c F G v a ∧ ArsOk G vs as
  | _, _ => False
def rdA (m : M (List Ar)) : TA := fun σ H Q => ∃ P G, Rel c F ρ P σ H G ∧ out m P (fun as P' => ∀ vs H' G', Ext G G' → Rel c F ρ P' σ H' G' → ArsOk c F G' vs as → Q vs H') (exW c F W P G σ)
end
theorem exW_le {c : Cn} {F : Fr} {W : WX} {P P' : Pot} {G G' : Hp} {σ : L2.St} (e : Ext G G') {x : Ex} {p : Pot} (h : exW c F W P G σ x p) : exW c F W P' G' σ x p :=
  fun cl dd H' G2 ρ' e2 r k => h cl dd H' G2 ρ' (fun a o q => e2 a o (e a o q)) r k
theorem exS_le {c : Cn} {F : Fr} {W : WX} {P P' : Pot} {G G' : Hp} {σ σ' : L2.St} (e : Ext G G') {x : Ex} {p : Pot} (h : exS c F W P G σ x p) : exS c F W P' G' σ' x p :=
  fun cl dd H' G2 ρ' σ2 e2 r k => h cl dd H' G2 ρ' σ2 (fun a o q => e2 a o (e a o q)) r k
theorem exS.w {c : Cn} {F : Fr} {W : WX} {P P' : Pot} {G : Hp} {σ σ' : L2.St} {x : Ex} {p : Pot} (h : exS c F W P G σ x p) : exW c F W P' G σ' x p :=
  fun cl dd H' G2 ρ' e2 r k => h cl dd H' G2 ρ' σ' e2 r k
theorem Ext.refl (G : Hp) : Ext G G := fun _ _ h => h
theorem Ext.trans {G G1 G2 : Hp} (a : Ext G G1) (b : Ext G1 G2) : Ext G G2 := fun x o h => b x o (a x o h)
/-- another reading -/
theorem pe_by {X : Cx} {e : Expr} {t t' : TE} (h : PE X e t) (k : ∀ σ H Q, t' σ H Q → t σ H Q) : PE X e t' := ⟨fun pins s σ H Q I q => h.run pins s σ H Q I (k σ H Q q)⟩
theorem pt_by {X : Cx} {e : Expr} {t t' : TT} (h : PT X e t) (k : ∀ σ H Q, t' σ H Q → t σ H Q) : PT X e t' := ⟨fun pins s σ H Q I q => h.run pins s σ H Q I (k σ H Q q)⟩
theorem pa_by {X : Cx} {e : List Expr} {t t' : TA} (h : PA X e t) (k : ∀ σ H Q, t' σ H Q → t σ H Q) : PA X e t' := ⟨fun pos pins s σ H Q I q => h.run pos pins s σ H Q I (k σ H Q q)⟩
theorem ps_by {X : Cx} {e : Stmt} {t t' : TS} (h : PS X e t) (k : ∀ D σ H, t' D σ H → t D σ H) : PS X e t' := ⟨fun pins s σ H D I q => h.run pins s σ H D I (k D σ H q)⟩
theorem pss_by {X : Cx} {e : List Stmt} {t t' : TS} (h : PSs X e t) (k : ∀ D σ H, t' D σ H → t D σ H) : PSs X e t' := ⟨fun pins s σ H D I q => h.run pins s σ H D I (k D σ H q)⟩
section
variable {c : Cn} {F : Fr} {W : WX} {ρ : List Sl} {X : Cx}
/-- a value in a slot -/
theorem de_var {i : Nat} {x : Str} {pos : Pos} {d : D} (hi : ρ[i]? = some (.v d)) (h : PE X (.Name x pos) (tVar i)) : PE X (.Name x pos) (rdE c F W ρ (Pure.pure d)) := by
  refine pe_by h fun σ H Q ⟨P, G, R, q⟩ => ?_
  have hl : i < σ.length := by rw [R.len]; exact (List.getElem?_eq_some_iff.mp hi).1
  obtain ⟨v, e, r⟩ := R.sl i _ _ hi (List.getElem?_eq_getElem hl)
  exact ⟨v, by rw [List.getElem?_eq_getElem hl, e], q v H G (Ext.refl G) R r⟩
theorem de_int {i j pos} : PE X (.Constant (.int i) j pos) (rdE c F W ρ (Pure.pure (.int i))) := pe_by pe_int fun σ H Q ⟨P, G, R, q⟩ => q _ H G (Ext.refl G) R (.int i)
theorem de_bl {b j pos} : PE X (.Constant (.bool b) j pos) (rdE c F W ρ (Pure.pure (.bl b))) := pe_by pe_bl fun σ H Q ⟨P, G, R, q⟩ => q _ H G (Ext.refl G) R (.bl b)
theorem de_non {j pos} : PE X (.Constant .none j pos) (rdE c F W ρ (Pure.pure .non)) := pe_by pe_non fun σ H Q ⟨P, G, R, q⟩ => q _ H G (Ext.refl G) R .non
theorem de_str {x j pos} : PE X (.Constant (.str x) j pos) (rdE c F W ρ (Pure.pure (.str x))) := pe_by pe_str fun σ H Q ⟨P, G, R, q⟩ => q _ H G (Ext.refl G) R (.str x)
/-- a module's plain constant -/
theorem de_glob {x : Str} {v : V} {d : D} {u : Value} {pos : Pos} (hg : Gl X x) (hm : X.mg x = some u) (r : RelV v u) (hd : ∀ G, c.rep G v d) (hx : (x == ("__debug__" : Str)) = false := by decide) : PE X (.Name x pos) (rdE c F W ρ (Pure.pure d)) :=
  pe_by (pe_glob hg hm r hx) fun σ H Q ⟨P, G, R, q⟩ => q v H G (Ext.refl G) R (hd G)
/-- a two-place operation -/
def OpD (c : Cn) (r : R2) (f : D → D → M D) : Prop := ∀ F ρ W P σ H G x y dx dy Q, Rel c F ρ P σ H G → c.rep G x dx → c.rep G y dy →
  out (f dx dy) P (fun d P' => ∀ v H' G', Ext G G' → Rel c F ρ P' σ H' G' → c.rep G' v d → Q v H') (exW c F W P G σ) → r x y H Q
theorem de_op {a b : Expr} {op : Operator} {pos : Pos} {r : R2} {f : D → D → M D} {ma mb : M D} (ho : OpR X (binaryOp op) r) (hf : OpD c r f) (ha : PE X a (rdE c F W ρ ma)) (hb : PE X b (rdE c F W ρ mb)) :
    PE X (.BinOp a op b pos) (rdE c F W ρ (ma >>= fun x => mb >>= fun y => f x y)) := by
  refine pe_by (pe_op ho ha hb) fun σ H Q ⟨P, G, R, q⟩ => ?_
  refine ⟨P, G, R, out_mono (out_bind.mp q) (fun x P1 q1 v H1 G1 e1 R1 r1 => ?_) fun _ _ z => z⟩
  refine ⟨P1, G1, R1, out_mono (out_bind.mp q1) (fun y P2 q2 u H2 G2 e2 R2 r2 => ?_) fun _ _ z => exW_le e1 z⟩
  exact hf F ρ W P2 σ H2 G2 v u x y Q R2 (r1.mono e2) r2 (out_mono q2 (fun d P3 q3 v3 H3 G3 e3 R3 r3 => q3 v3 H3 G3 (fun a o h => e3 a o (e2 a o (e1 a o h))) R3 r3) fun _ _ z => exW_le (fun a o h => e2 a o (e1 a o h)) z)
end
section
variable {c : Cn} {F : Fr} {W : WX} {ρ : List Sl} {X : Cx}
theorem de_un {a : Expr} {op : UnaryOp} {pos : Pos} {r : V → Hp → VK → Prop} {f : D → M D} {ma : M D} (ho : UnR X (unaryOp op) r)
    (hf : ∀ F ρ W P σ H G x dx Q, Rel c F ρ P σ H G → c.rep G x dx → out (f dx) P (fun d P' => ∀ v H' G', Ext G G' → Rel c F ρ P' σ H' G' → c.rep G' v d → Q v H') (exW c F W P G σ) → r x H Q)
    (ha : PE X a (rdE c F W ρ ma)) : PE X (.UnaryOp op a pos) (rdE c F W ρ (ma >>= f)) := by
  refine pe_by (pe_un ho ha) fun σ H Q ⟨P, G, R, q⟩ => ?_
  refine ⟨P, G, R, out_mono (out_bind.mp q) (fun x P1 q1 v H1 G1 e1 R1 r1 => ?_) fun _ _ z => z⟩
  exact hf F ρ W P1 σ H1 G1 v x Q R1 r1 (out_mono q1 (fun d P3 q3 v3 H3 G3 e3 R3 r3 => q3 v3 H3 G3 (e1.trans e3) R3 r3) fun _ _ z => exW_le e1 z)
theorem de_cmp {a b : Expr} {op : CmpOp} {pos : Pos} {r : R2} {f : D → D → M D} {ma mb : M D} (ho : OpR X (compareOp op) r) (hf : OpD c r f) (ha : PE X a (rdE c F W ρ ma)) (hb : PE X b (rdE c F W ρ mb)) (hm : behindInMarks op b = false := by first | exact nomark _ | rfl) :
    PE X (.Compare a [op] [b] pos) (rdE c F W ρ (ma >>= fun x => mb >>= fun y => f x y)) := by
  refine pe_by (pe_cmpR ho ha hb hm) fun σ H Q ⟨P, G, R, q⟩ => ?_
  refine ⟨P, G, R, out_mono (out_bind.mp q) (fun x P1 q1 v H1 G1 e1 R1 r1 => ?_) fun _ _ z => z⟩
  refine ⟨P1, G1, R1, out_mono (out_bind.mp q1) (fun y P2 q2 u H2 G2 e2 R2 r2 => ?_) fun _ _ z => exW_le e1 z⟩
  exact hf F ρ W P2 σ H2 G2 v u x y Q R2 (r1.mono e2) r2 (out_mono q2 (fun d P3 q3 v3 H3 G3 e3 R3 r3 => q3 v3 H3 G3 (fun a o h => e3 a o (e2 a o (e1 a o h))) R3 r3) fun _ _ z => exW_le (fun a o h => e2 a o (e1 a o h)) z)
def boolD : D → M Bool
  | .bl b => Pure.pure b
  | _ => M.no
theorem Rep.bl_of {G : Hp} {v : V} {b : Bool} (h : c.rep G v (.bl b)) : v = .bl b := by cases h; rfl
theorem Rep.int_of {G : Hp} {v : V} {b : Int} (h : c.rep G v (.int b)) : v = .int b := by cases h; rfl
theorem Rep.str_of {G : Hp} {v : V} {b : Str} (h : c.rep G v (.str b)) : v = .str b := by cases h; rfl
theorem Rep.non_of {G : Hp} {v : V} (h : c.rep G v .non) : v = .non := by cases h; rfl
/-- an expression whose value is a bool, as a test -/
theorem dt_val {e : Expr} {m : M D} (h : PE X e (rdE c F W ρ m)) (he : ∀ whole, isTrue e X.env whole = (do let v ← whole; standAt e.pos; holding [v] (truthy v)) := by intro _; rfl) : PT X e (rdT c F W ρ (m >>= boolD)) := by
  refine pt_by (pt_val h he) fun σ H Q ⟨P, G, R, q⟩ => ?_
  refine ⟨P, G, R, out_mono (out_bind.mp q) (fun x P1 q1 v H1 G1 e1 R1 r1 => ?_) fun _ _ z => z⟩
  cases x with
  | bl b => exact ⟨b, r1.bl_of, q1 H1 G1 e1 R1⟩
  | _ => exact q1.elim
/-- a comparison as a test -/
theorem dt_cmp {a b : Expr} {op : CmpOp} {pos : Pos} {r : R2} {f : D → D → M D} {ma mb : M D} (ho : OpR X (compareOp op) r) (hf : OpD c r f) (ha : PE X a (rdE c F W ρ ma)) (hb : PE X b (rdE c F W ρ mb)) (hm : behindInMarks op b = false := by first | exact nomark _ | rfl) :
    PT X (.Compare a [op] [b] pos) (rdT c F W ρ ((ma >>= fun x => mb >>= fun y => f x y) >>= boolD)) := by
  refine pt_by (pt_cmpR ho ha hb hm) fun σ H Q ⟨P, G, R, q⟩ => ?_
  refine ⟨P, G, R, out_mono (out_bind.mp (out_bind.mp q)) (fun x P1 q1 v H1 G1 e1 R1 r1 => ?_) fun _ _ z => z⟩
  refine ⟨P1, G1, R1, out_mono (out_bind.mp q1) (fun y P2 q2 u H2 G2 e2 R2 r2 => ?_) fun _ _ z => exW_le e1 z⟩
  refine hf F ρ W P2 σ H2 G2 v u x y _ R2 (r1.mono e2) r2 (out_mono q2 (fun d P3 q3 v3 H3 G3 e3 R3 r3 => ?_) fun _ _ z => exW_le (e1.trans e2) z)
  cases d with
  | bl k => exact ⟨k, r3.bl_of, q3 H3 G3 ((e1.trans e2).trans e3) R3⟩
  | _ => exact q3.elim
theorem dt_not {a : Expr} {pos : Pos} {m : M Bool} (h : PT X a (rdT c F W ρ m)) : PT X (.UnaryOp .Not a pos) (rdT c F W ρ (m >>= fun b => Pure.pure (!b))) := by
  refine pt_by (pt_not h) fun σ H Q ⟨P, G, R, q⟩ => ?_
  exact ⟨P, G, R, out_mono (out_bind.mp q) (fun x P1 q1 H1 G1 e1 R1 => q1 H1 G1 e1 R1) fun _ _ z => z⟩
theorem dw_and1 {a : Expr} {pos : Pos} {m : M Bool} (h : PT X a (rdT c F W ρ m)) : PW X (.BoolOp .And [a] pos) (rdT c F W ρ m) := pw_and1 h
theorem dw_or1 {a : Expr} {pos : Pos} {m : M Bool} (h : PT X a (rdT c F W ρ m)) : PW X (.BoolOp .Or [a] pos) (rdT c F W ρ m) := pw_or1 h
theorem pw_by {X : Cx} {e : Expr} {t t' : TT} (h : PW X e t) (k : ∀ σ H Q, t' σ H Q → t σ H Q) : PW X e t' := ⟨fun wh pins s σ H Q I q => h.run wh pins s σ H Q I (k σ H Q q)⟩
theorem dw_and {a b : Expr} {rest : List Expr} {pos : Pos} {m m' : M Bool} (h : PT X a (rdT c F W ρ m)) (k : PW X (.BoolOp .And (b :: rest) pos) (rdT c F W ρ m')) :
    PW X (.BoolOp .And (a :: b :: rest) pos) (rdT c F W ρ (m >>= fun x => if x = true then m' else Pure.pure false)) := by
  refine pw_by (pw_and h k) fun σ H Q ⟨P, G, R, q⟩ => ?_
  refine ⟨P, G, R, out_mono (out_bind.mp q) (fun x P1 q1 H1 G1 e1 R1 => ?_) fun _ _ z => z⟩
  cases x with
  | true => exact ⟨P1, G1, R1, out_mono q1 (fun y P2 q2 H2 G2 e2 R2 => q2 H2 G2 (e1.trans e2) R2) fun _ _ z => exW_le e1 z⟩
  | false => exact q1 H1 G1 e1 R1
theorem dw_or {a b : Expr} {rest : List Expr} {pos : Pos} {m m' : M Bool} (h : PT X a (rdT c F W ρ m)) (k : PW X (.BoolOp .Or (b :: rest) pos) (rdT c F W ρ m')) :
    PW X (.BoolOp .Or (a :: b :: rest) pos) (rdT c F W ρ (m >>= fun x => if x = true then Pure.pure true else m')) := by
  refine pw_by (pw_or h k) fun σ H Q ⟨P, G, R, q⟩ => ?_
  refine ⟨P, G, R, out_mono (out_bind.mp q) (fun x P1 q1 H1 G1 e1 R1 => ?_) fun _ _ z => z⟩
  cases x with
  | false => exact ⟨P1, G1, R1, out_mono q1 (fun y P2 q2 H2 G2 e2 R2 => q2 H2 G2 (e1.trans e2) R2) fun _ _ z => exW_le e1 z⟩
  | true => exact q1 H1 G1 e1 R1
/-- and, or, not as values (of bools) -/
theorem de_one {op} {a : Expr} {pos : Pos} {m : M D} (h : PE X a (rdE c F W ρ m)) : PE X (.BoolOp op [a] pos) (rdE c F W ρ m) := pe_one h
theorem de_and {a b : Expr} {rest : List Expr} {pos : Pos} {m m' : M D} (h : PE X a (rdE c F W ρ m)) (k : PE X (.BoolOp .And (b :: rest) pos) (rdE c F W ρ m')) :
    PE X (.BoolOp .And (a :: b :: rest) pos) (rdE c F W ρ (m >>= fun x => boolD x >>= fun x => if x = true then m' else Pure.pure (.bl false))) := by
  refine pe_by (pe_and h k) fun σ H Q ⟨P, G, R, q⟩ => ?_
  refine ⟨P, G, R, out_mono (out_bind.mp q) (fun x P1 q1 v H1 G1 e1 R1 r1 => ?_) fun _ _ z => z⟩
  cases x with
  | bl b =>
    refine ⟨b, r1.bl_of, ?_⟩
    cases b with
    | true => exact ⟨P1, G1, R1, out_mono q1 (fun y P2 q2 v2 H2 G2 e2 R2 r2 => q2 v2 H2 G2 (e1.trans e2) R2 r2) fun _ _ z => exW_le e1 z⟩
    | false => exact q1 _ H1 G1 e1 R1 (.bl false)
  | _ => exact q1.elim
theorem de_if {t a b : Expr} {pos : Pos} {m : M Bool} {ma mb : M D} (h : PT X t (rdT c F W ρ m)) (ha : PE X a (rdE c F W ρ ma)) (hb : PE X b (rdE c F W ρ mb)) :
    PE X (.IfExp t a b pos) (rdE c F W ρ (m >>= fun x => if x = true then ma else mb)) := by
  refine pe_by (pe_ifExp h ha hb) fun σ H Q ⟨P, G, R, q⟩ => ?_
  refine ⟨P, G, R, out_mono (out_bind.mp q) (fun x P1 q1 H1 G1 e1 R1 => ?_) fun _ _ z => z⟩
  cases x with
  | true => exact ⟨P1, G1, R1, out_mono q1 (fun y P2 q2 v2 H2 G2 e2 R2 r2 => q2 v2 H2 G2 (e1.trans e2) R2 r2) fun _ _ z => exW_le e1 z⟩
  | false => exact ⟨P1, G1, R1, out_mono q1 (fun y P2 q2 v2 H2 G2 e2 R2 r2 => q2 v2 H2 G2 (e1.trans e2) R2 r2) fun _ _ z => exW_le e1 z⟩
theorem ArsOk.mono {G G' : Hp} (e : Ext G G') : ∀ {vs : List V} {as : List Ar}, ArsOk c F G vs as → ArsOk c F G' vs as
  | [], [], _ => True.intro
  | _ :: _, .v _ :: _, ⟨h, t⟩ => ⟨Rep.mono e h, ArsOk.mono e t⟩
  | _ :: _, .p :: _, ⟨h, t⟩ => ⟨h, ArsOk.mono e t⟩
theorem da_nil : PA X [] (rdA c F W ρ (Pure.pure [])) := pa_by pa_nil fun σ H Q ⟨P, G, R, q⟩ => q [] H G (Ext.refl G) R True.intro
theorem da_cons {e : Expr} {es : List Expr} {m : M D} {ms : M (List Ar)} (h : PE X e (rdE c F W ρ m)) (t : PA X es (rdA c F W ρ ms)) (hs : starEach (e :: es) X.env = (false, eval e X.env) :: starEach es X.env := by rfl) :
    PA X (e :: es) (rdA c F W ρ (m >>= fun x => ms >>= fun xs => Pure.pure (.v x :: xs))) := by
  refine pa_by (pa_cons h t hs) fun σ H Q ⟨P, G, R, q⟩ => ?_
  refine ⟨P, G, R, out_mono (out_bind.mp q) (fun x P1 q1 v H1 G1 e1 R1 r1 => ?_) fun _ _ z => z⟩
  refine ⟨P1, G1, R1, out_mono (out_bind.mp q1) (fun xs P2 q2 vs H2 G2 e2 R2 r2 => ?_) fun _ _ z => exW_le e1 z⟩
  exact q2 (v :: vs) H2 G2 (e1.trans e2) R2 ⟨r1.mono e2, r2⟩
/-- the pot, handed on -/
theorem da_pot {i : Nat} {x : Str} {pos : Pos} {es : List Expr} {ms : M (List Ar)} (hi : ρ[i]? = some .p) (h : PE X (.Name x pos) (tVar i)) (t : PA X es (rdA c F W ρ ms)) (hs : starEach (.Name x pos :: es) X.env = (false, eval (.Name x pos) X.env) :: starEach es X.env := by rfl) :
    PA X (.Name x pos :: es) (rdA c F W ρ (ms >>= fun xs => Pure.pure (.p :: xs))) := by
  refine pa_by (pa_cons h t hs) fun σ H Q ⟨P, G, R, q⟩ => ?_
  have hl : i < σ.length := by rw [R.len]; exact (List.getElem?_eq_some_iff.mp hi).1
  obtain ⟨a, ea, e⟩ := R.sl i _ _ hi (List.getElem?_eq_getElem hl)
  refine ⟨.ref a, by rw [List.getElem?_eq_getElem hl, e], ?_⟩
  refine ⟨P, G, R, out_mono (out_bind.mp q) (fun xs P2 q2 vs H2 G2 e2 R2 r2 => ?_) fun _ _ z => z⟩
  exact q2 (.ref a :: vs) H2 G2 e2 R2 ⟨⟨a, ea, rfl⟩, r2⟩
/-- values alone -/
def vals : List Ar → M (List D)
  | [] => Pure.pure []
  | .v d :: as => vals as >>= fun ds => Pure.pure (d :: ds)
  | .p :: _ => M.no
end
/-- nothing of repr is under way -/
def GA (A : Around) : Prop := A.guards = some []
/-- what a def does, told by data: mf -/
def spD (c : Cn) (mf : List Ar → M D) : Sp := fun vs H Q E => ∃ (ap : Option Addr) (G : Hp) (P : Pot) (as : List Ar),
  Post c ap G H P G H ∧ ArsOk c ⟨G, H, ap⟩ G vs as ∧
  out (mf as) P (fun d P' => ∀ v H' G', Post c ap G H P' G' H' → c.rep G' v d → Q v H') (fun e P' => ∀ cl dd H' G', Post c ap G H P' G' H' → ExOk c H' G' e cl dd → E cl dd H')
/-- a def that keeps a promise, where nothing of repr is under way -/
structure FnG (P : Program) (w : World) (K : PySem.W.Frag) (mg : Str → Option Value) (base : Heap) (k : Nat) (f : Addr) (fd : FuncData) (ps : List Str) (sp : Sp) : Prop where
  ln : ∀ vs H Q E, sp vs H Q E → vs.length = ps.length
  go : ∀ (A : Around) (fr : List Env) (s : Shared) (H : Hp) (us : List Value) (vs : List V) (args : Args) (Q : VK) (E : XK), GA A → Room k A → Env0 P w K mg base A fr s H → BindsTo s fd args (ps.zip us) → Vals vs us → sp vs H Q E →
    codeAny (model P w) A (.call (.ref f) args) (CR (L2.CX P w) fr P w H s Q E) s
theorem Post.refl' {c : Cn} {ap : Option Addr} {G0 H0 : Hp} {P : Pot} {G H : Hp} (p : Post c ap G0 H0 P G H) : Post c ap G H P G H :=
  ⟨Ext.refl _, p.le, fun _ _ h _ _ => h, fun _ h => .inl h, p.pot, p.tab, p.nt⟩
theorem Post.fre {c : Cn} {ap : Option Addr} {G0 H0 G H : Hp} {P : Pot} (p : Post c ap G0 H0 P G H) {a : Addr} (h : Fre H a) : Fre H0 a := fun o e => by
  by_cases t : noTbl o
  · exfalso
    by_cases n : some a ≠ ap
    · exact h.no (p.fr a o e n t) t
    · have n' : some a = ap := Classical.not_not.mp n
      subst n'
      have z := p.pot
      cases P with
      | none => exact z
      | some ds =>
        obtain ⟨vs, z, _⟩ := z
        obtain ⟨ps, z2⟩ := h _ z
        cases z2
  · exact Classical.not_forall_not.mp t
theorem Post.trans {c : Cn} {ap : Option Addr} {G0 H0 G H G' H' : Hp} {P P' : Pot} (p : Post c ap G0 H0 P G H) (q : Post c ap G H P' G' H') : Post c ap G0 H0 P' G' H' := by
  refine ⟨p.ext.trans q.ext, q.le, fun b o h n t => q.fr b o (p.fr b o h n t) n t, fun a h => ?_, q.pot, q.tab, q.nt⟩
  rcases q.new a h with h | h | h
  · rcases p.new a h with y | y | ⟨vs, y⟩
    · exact .inl y
    · exact .inr (.inl y)
    · exact .inr (.inr ⟨vs, q.ext _ _ y⟩)
  · exact .inr (.inl (p.fre h))
  · exact .inr (.inr h)
/-- behind a callee -/
theorem Rel.after {c : Cn} {F : Fr} {ρ : List Sl} {P P' : Pot} {σ : L2.St} {H G H' G' : Hp} (R : Rel c F ρ P σ H G) (q : Post c F.ap G H P' G' H') : Rel c F ρ P' σ H' G' := by
  refine ⟨R.post.trans q, R.len, fun i s x a b => ?_, R.ap⟩
  have z := R.sl i s x a b
  cases s with
  | un => exact True.intro
  | v d => obtain ⟨v, e, r⟩ := z; exact ⟨v, e, r.mono q.ext⟩
  | p => exact z
  | o k =>
    obtain ⟨a, e, ⟨o, ho, hk⟩, g, h, p⟩ := z
    have nt : noTbl o := by
      intro ps e2; subst e2
      cases k <;> exact hk
    refine ⟨a, e, ⟨o, q.fr a o ho p nt, ?_⟩, ?_, h, p⟩
    · have mono : ∀ {vs ds}, c.reps G vs ds → c.reps G' vs ds := fun h => h.mono q.ext
      cases o <;> cases k <;> first | exact hk.elim | exact mono hk | exact ⟨hk.1, mono hk.2⟩ | exact ⟨hk.1, hk.2.1, mono hk.2.2⟩ | exact ⟨hk.1, hk.2.1, hk.2.2.1, mono hk.2.2.2⟩
    · cases z : G' a with
      | none => rfl
      | some u =>
        rcases q.new a (by rw [z]; simp) with h | h | ⟨vs, h⟩
        · exact absurd g h
        · exact (h.no ho nt).elim
        · have y := q.le _ _ h
          rw [q.fr a o ho p nt] at y
          cases y
          exact hk.elim
/-- a body's context, whatever the def -/
structure Ctx (c : Cn) (X : Cx) (k : Nat) : Prop where
  mg : X.mg = c.mg
  K : X.K = c.K
  ga : GA X.A
  rm : Room k X.A
section
variable {c : Cn} {F : Fr} {W : WX} {ρ : List Sl} {X : Cx} {k n : Nat}
theorem Ctx.mono {j : Nat} (h : Ctx c X k) (l : j ≤ k) : Ctx c X j := ⟨h.mg, h.K, h.ga, h.rm.mono l⟩
theorem ArsOk.length {G : Hp} : ∀ {vs : List V} {as : List Ar}, ArsOk c F G vs as → vs.length = as.length
  | [], [], _ => rfl
  | _ :: _, _ :: _, h => by simp [ArsOk.length h.2]
theorem ArsOk.fr {F' : Fr} {G : Hp} (h : F.ap = F'.ap) : ∀ {vs : List V} {as : List Ar}, ArsOk c F G vs as → ArsOk c F' G vs as
  | [], [], _ => True.intro
  | _ :: _, .v _ :: _, ⟨a, t⟩ => ⟨a, ArsOk.fr h t⟩
  | _ :: _, .p :: _, ⟨⟨b, a, a'⟩, t⟩ => ⟨⟨b, h.symm.trans a, a'⟩, ArsOk.fr h t⟩
/-- the callee runs -/
theorem run_g {f : Addr} {fd : FuncData} {ps : List Str} {sp : Sp} {pins : List (Addr × Obj)} {s : Shared} {σ : L2.St} {H : Hp} {Q : VK} {us : List Value} {vs : List V} (ga : GA X.A) (rm : Room k X.A) (tk : Takes X W)
    (fn : FnG X.prog X.w X.K X.mg X.base k f fd ps sp) (hb : Binds X.K fd ps []) (I : Inv X pins σ H s) (r : Vals vs us) (h : sp vs H Q (WE W σ)) : wpAny (model X.prog X.w) X.A (call (.ref f) us) (EP X pins σ Q) X.xe s := by
  have hl : us.length = ps.length := r.length.symm.trans (fn.ln _ _ _ _ h)
  have b := hb s us I.kIn (by simpa using hl)
  rw [List.append_nil] at b
  refine wpAny_call (codeAny_mono (fn.go X.A X.stack s H us vs ⟨us, []⟩ Q (WE W σ) ga rm I.env0 b r h) fun res s2 z => ?_)
  match res, z with
  | .error e, z => exact passAt tk σ pins H s e s2 I z
  | .ok (.ret u), z => exact I.after z
  | .ok .next, z => exact z.elim
  | .ok .brk, z => exact z.elim
  | .ok .cont, z => exact z.elim
/-- from a reading of the call's end to the callee's promise -/
theorem sp_of {mf : List Ar → M D} {P : Pot} {σ : L2.St} {H G : Hp} {Q : VK} {as : List Ar} {vs : List V} (R : Rel c F ρ P σ H G) (r : ArsOk c F G vs as)
    (q : out (mf as) P (fun d P' => ∀ v H' G', Ext G G' → Rel c F ρ P' σ H' G' → c.rep G' v d → Q v H') (exW c F W P G σ)) : spD c mf vs H Q (WE W σ) := by
  refine ⟨F.ap, G, P, as, R.post.refl', ArsOk.fr (F := F) (F' := ⟨G, H, F.ap⟩) rfl r, out_mono q (fun d P' z v H' G' p k => z v H' G' p.ext (R.after p) k) fun e P' z cl dd H' G' p k => ?_⟩
  exact z cl dd H' G' ρ p.ext (R.after p) k
/-- f(e, ..), f an own def told by data -/
theorem de_call {f : Addr} {fd : FuncData} {mf : List Ar → M D} {ms : M (List Ar)} {x : Str} {p pos : Pos} {e : Expr} {es : List Expr} {ps : List Str} (C : Ctx c X k) (tk : Takes X W)
    (fn : FnG X.prog X.w X.K X.mg X.base k f fd ps (spD c mf)) (hg : Gl X x) (hm : c.mg x = some (.ref f)) (hk : PySem.W.keepIn c.K (.ref f) = true) (hb : Binds c.K fd ps [])
    (ha : PA X (e :: es) (rdA c F W ρ ms)) (hdb : (x == ("__debug__" : Str)) = false := by decide) (he : starEach (e :: es) X.env = (false, eval e X.env) :: starEach es X.env := by rfl) (hpl : (backTo pos (starEach es X.env)).any (·.1) = false := by rfl) :
    PE X (.Call (.Name x p) (e :: es) [] pos) (rdE c F W ρ (ms >>= mf)) := by
  refine ⟨fun pins s σ H Q I ⟨P, G, R, q⟩ => ?_⟩
  have hx : X.mg x = some (.ref f) := by rw [C.mg]; exact hm
  have kf : PySem.W.keepIn X.K (.ref f) = true := by rw [C.K]; exact hk
  have hb' : Binds X.K fd ps [] := by rw [C.K]; exact hb
  refine wpAny_Call_Name_kw (ld_glob I hg hx ?_ hdb)
  have step := ha.run pos pins s σ H (fun vs H1 => ∃ P1 G1 as, Ext G G1 ∧ Rel c F ρ P1 σ H1 G1 ∧ ArsOk c F G1 vs as ∧ out (mf as) P1 (fun d P' => ∀ v H' G', Ext G1 G' → Rel c F ρ P' σ H' G' → c.rep G' v d → Q v H') (exW c F W P1 G1 σ)) I
    ⟨P, G, R, out_mono (out_bind.mp q) (fun as P1 q1 vs H1 G1 e1 R1 r1 => ⟨P1, G1, as, e1, R1, r1, out_mono q1 (fun d P2 q2 v H2 G2 e2 R2 r2 => q2 v H2 G2 (e1.trans e2) R2 r2) fun _ _ z => exW_le e1 z⟩) fun _ _ z => z⟩
  refine PySem.W.callWith_K (h₀ := X.base) I.ok.mod.kin kf (thn step fun us s1 ⟨vs, H1, I1, rv, P1, G1, as, e1, R1, r1, q1⟩ => ⟨I1.kIn, ?_⟩) he hpl
  exact run_g C.ga C.rm tk fn hb' I1 rv (sp_of R1 r1 q1)
end
inductive Fl (α : Type) where
  | nx (a : α) | rt (d : D) | bk (a : α) | ct (a : α)
section
variable (c : Cn) (F : Fr) (W : WX)
/-- a block, from the slots ρ; E tells the slots behind it -/
def rdS {α : Type} (ρ : List Sl) (E : α → List Sl) (m : M (Fl α)) : TS := fun B σ H => ∃ P G, Rel c F ρ P σ H G ∧ out m P (fun f P' => match f with
    | .nx a => ∀ σ' H' G', Ext G G' → Rel c F (E a) P' σ' H' G' → B.nx σ' H'
    | .bk a => ∀ σ' H' G', Ext G G' → Rel c F (E a) P' σ' H' G' → B.bk σ' H'
    | .ct a => ∀ σ' H' G', Ext G G' → Rel c F (E a) P' σ' H' G' → B.ct σ' H'
    | .rt d => ∀ v H' G' ρ' σ', Ext G G' → Rel c F ρ' P' σ' H' G' → c.rep G' v d → B.rt v H') (exS c F W P G σ)
end
/-- a block that neither breaks nor goes on -/
def thenR {α β : Type} (m : M (Fl α)) (k : α → M (Fl β)) : M (Fl β) := m >>= fun f => match f with
  | .nx a => k a
  | .rt d => Pure.pure (.rt d)
  | _ => M.no
section
variable {c : Cn} {F : Fr} {W : WX} {ρ : List Sl} {X : Cx} {k n : Nat} {α β : Type} {E : α → List Sl} {E' : β → List Sl}
theorem ds_cons {st : Stmt} {rest : List Stmt} {m : M (Fl α)} {k : α → M (Fl β)} (h1 : PS X st (rdS c F W ρ E m)) (h2 : ∀ a, PSs X rest (rdS c F W (E a) E' (k a))) : PSs X (st :: rest) (rdS c F W ρ E' (thenR m k)) := by
  refine ⟨fun pins s σ H B I ⟨P, G, R, q⟩ => ?_⟩
  -- the first statement, then by what it hands on
  have q0 := out_bind.mp q
  have step := h1.run pins s σ H { nx := fun σ' H' => ∃ a P1 G1, Ext G G1 ∧ Rel c F (E a) P1 σ' H' G1 ∧ out (k a) P1 (fun f P' => match f with
    | .nx a => ∀ σ' H' G', Ext G1 G' → Rel c F (E' a) P' σ' H' G' → B.nx σ' H'
    | .bk a => ∀ σ' H' G', Ext G1 G' → Rel c F (E' a) P' σ' H' G' → B.bk σ' H'
    | .ct a => ∀ σ' H' G', Ext G1 G' → Rel c F (E' a) P' σ' H' G' → B.ct σ' H'
    | .rt d => ∀ v H' G' ρ' σ', Ext G1 G' → Rel c F ρ' P' σ' H' G' → c.rep G' v d → B.rt v H') (exS c F W P1 G1 σ'), rt := B.rt } I ⟨P, G, R, out_mono q0 (fun f P1 q1 => ?_) fun _ _ z => z⟩
  · refine wpAny_execs_cons (thn step fun fl s1 z => ?_)
    cases fl with
    | next =>
      obtain ⟨σ1, H1, I1, a, P1, G1, e1, R1, q1⟩ := z
      exact (h2 a).run pins s1 σ1 H1 B I1 ⟨P1, G1, R1, q1⟩
    | ret u => exact z
    | brk => obtain ⟨_, _, _, z⟩ := z; exact z.elim
    | cont => obtain ⟨_, _, _, z⟩ := z; exact z.elim
  · cases f with
    | nx a =>
      intro σ' H' G' e R'
      refine ⟨a, P1, G', e, R', out_mono (show out (k a) P1 _ _ from q1) (fun f P2 q2 => ?_) fun _ _ z => exS_le e z⟩
      cases f with
      | nx b => exact fun σ2 H2 G2 e2 R2 => q2 σ2 H2 G2 (e.trans e2) R2
      | bk b => exact fun σ2 H2 G2 e2 R2 => q2 σ2 H2 G2 (e.trans e2) R2
      | ct b => exact fun σ2 H2 G2 e2 R2 => q2 σ2 H2 G2 (e.trans e2) R2
      | rt d => exact fun v H2 G2 ρ2 σ2 e2 R2 r2 => q2 v H2 G2 ρ2 σ2 (e.trans e2) R2 r2
    | rt d => exact q1
    | bk a => exact (show False from q1).elim
    | ct a => exact (show False from q1).elim
/-- the last statement of a block -/
theorem ds_one {st : Stmt} {m : M (Fl α)} (h : PS X st (rdS c F W ρ E m)) : PSs X [st] (rdS c F W ρ E m) := pss_one h
theorem ds_ret {e : Expr} {pos : Pos} {m : M D} (h : PE X e (rdE c F W ρ m)) : PS X (.Return (some e) pos) (rdS c F W ρ E (m >>= fun d => Pure.pure (.rt d))) := by
  refine ps_by (ps_ret h) fun B σ H ⟨P, G, R, q⟩ => ?_
  exact ⟨P, G, R, out_mono (out_bind.mp q) (fun d P1 q1 v H1 G1 e1 R1 r1 => q1 v H1 G1 ρ σ e1 R1 r1) fun _ _ z => exS.w z⟩
theorem ds_if {t : Expr} {a b : List Stmt} {pos : Pos} {m : M Bool} {ma mb : M (Fl α)} (h : PT X t (rdT c F W ρ m)) (ha : PSs X a (rdS c F W ρ E ma)) (hb : PSs X b (rdS c F W ρ E mb)) :
    PS X (.If t a b pos) (rdS c F W ρ E (m >>= fun x => if x = true then ma else mb)) := by
  refine ps_by (ps_if h ha hb) fun B σ H ⟨P, G, R, q⟩ => ?_
  refine ⟨P, G, R, out_mono (out_bind.mp q) (fun x P1 q1 H1 G1 e1 R1 => ?_) fun _ _ z => exS.w z⟩
  have go : ∀ {mm : M (Fl α)}, out mm P1 (fun f P' => match f with
    | .nx a => ∀ σ' H' G', Ext G G' → Rel c F (E a) P' σ' H' G' → B.nx σ' H'
    | .bk a => ∀ σ' H' G', Ext G G' → Rel c F (E a) P' σ' H' G' → B.bk σ' H'
    | .ct a => ∀ σ' H' G', Ext G G' → Rel c F (E a) P' σ' H' G' → B.ct σ' H'
    | .rt d => ∀ v H' G' ρ' σ', Ext G G' → Rel c F ρ' P' σ' H' G' → c.rep G' v d → B.rt v H') (exS c F W P G σ) → rdS c F W ρ E mm B σ H1 := fun {mm} z => by
    refine ⟨P1, G1, R1, out_mono z (fun f P2 q2 => ?_) fun _ _ z => exS_le e1 z⟩
    cases f with
    | nx b => exact fun σ2 H2 G2 e2 R2 => q2 σ2 H2 G2 (e1.trans e2) R2
    | bk b => exact fun σ2 H2 G2 e2 R2 => q2 σ2 H2 G2 (e1.trans e2) R2
    | ct b => exact fun σ2 H2 G2 e2 R2 => q2 σ2 H2 G2 (e1.trans e2) R2
    | rt d => exact fun v H2 G2 ρ2 σ2 e2 R2 r2 => q2 v H2 G2 ρ2 σ2 (e1.trans e2) R2 r2
  cases x with
  | true => exact go q1
  | false => exact go q1
/-- a slot is set to a value -/
theorem Rel.set {P : Pot} {σ : L2.St} {H G : Hp} {i : Nat} {v : V} {d : D} (R : Rel c F ρ P σ H G) (r : c.rep G v d) : Rel c F (ρ.set i (.v d)) P (σ.set i (some v)) H G := by
  refine ⟨R.post, by simp [R.len], fun j s x a b => ?_, fun j j' k k' a h1 h2 h3 h4 => ?_⟩
  · rw [List.getElem?_set] at a b
    by_cases e : i = j
    · rw [if_pos e] at a b
      split at a
      · split at b
        · cases a; cases b; exact ⟨v, rfl, r⟩
        · cases b
      · cases a
    · rw [if_neg e] at a b
      exact R.sl j s x a b
  · have ne : ∀ {m : Nat} {kk : Cel}, (ρ.set i (Sl.v d))[m]? = some (.o kk) → i ≠ m := fun {m kk} h e => by
      rw [List.getElem?_set, if_pos e] at h
      split at h <;> cases h
    have n1 := ne h1
    have n2 := ne h2
    rw [List.getElem?_set_ne n1] at h1 h3
    rw [List.getElem?_set_ne n2] at h2 h4
    exact R.ap j j' k k' a h1 h2 h3 h4
/-- name = e -/
theorem ds_set {i : Nat} {x : Str} {e : Expr} {pos pos' : Pos} {m : M D} (hN : X.N.Nodup) (hi : X.N[i]? = some x) (hx : Loc X.env.scope x) (h : PE X e (rdE c F W ρ m)) (hs : swapsWith e (some (.Name x pos')) pos.line X.env = pure false := by rfl) (hf : X.fn x = true ∨ X.env.scope.names.lookup x = some .local := by first | exact .inl rfl | exact .inr rfl | assumption) :
    PS X (.Assign [.Name x pos'] e pos) (rdS c F W ρ (fun d => ρ.set i (.v d)) (m >>= fun d => Pure.pure (.nx d))) := by
  refine ps_by (ps_set hN hi hx h hs hf) fun B σ H ⟨P, G, R, q⟩ => ?_
  refine ⟨P, G, R, out_mono (out_bind.mp q) (fun d P1 q1 v H1 G1 e1 R1 r1 => ?_) fun _ _ z => exS.w z⟩
  have q' : ∀ σ' H' G', Ext G G' → Rel c F (ρ.set i (.v d)) P1 σ' H' G' → B.nx σ' H' := q1
  exact q' _ H1 G1 e1 (R1.set r1)
/-- what is forgotten -/
def Fog : Sl → Sl → Prop
  | _, .un => True
  | a, b => a = b
theorem Rel.fog {P : Pot} {σ : L2.St} {H G : Hp} {ρ' : List Sl} (R : Rel c F ρ P σ H G) (hl : ρ'.length = ρ.length) (h : ∀ (i : Nat) a b, ρ[i]? = some a → ρ'[i]? = some b → Fog a b) : Rel c F ρ' P σ H G := by
  have up : ∀ (i : Nat) s, ρ'[i]? = some s → s ≠ .un → ρ[i]? = some s := fun i s a ne => by
    have hi : i < ρ.length := by rw [← hl]; exact (List.getElem?_eq_some_iff.mp a).1
    have z := h i _ s (List.getElem?_eq_getElem hi) a
    rw [List.getElem?_eq_getElem hi]
    cases s with
    | un => exact absurd rfl ne
    | v d => cases q : ρ[i] <;> rw [q] at z <;> first | exact congrArg some z | cases z
    | o d => cases q : ρ[i] <;> rw [q] at z <;> first | exact congrArg some z | cases z
    | p => cases q : ρ[i] <;> rw [q] at z <;> first | exact congrArg some z | cases z
  refine ⟨R.post, R.len.trans hl.symm, fun i s x a b => ?_, fun i j k k' a h1 h2 h3 h4 => R.ap i j k k' a (up i _ h1 nofun) (up j _ h2 nofun) h3 h4⟩
  cases s with
  | un => exact True.intro
  | v d => exact R.sl i _ x (up i _ a nofun) b
  | o d => exact R.sl i _ x (up i _ a nofun) b
  | p => exact R.sl i _ x (up i _ a nofun) b
end
theorem tabs_upd {T : List (Addr × Str)} {H : Hp} {a : Addr} {o : HO} (t : LamX.Tabs T H) (ha : ∀ u, H a = some u → (∀ ps, u ≠ .tbl ps) ∧ ∀ φ, u ≠ .ext φ) : LamX.Tabs T (upd H a o) := by
  intro p hp
  obtain ⟨ps, h1, h2, h3⟩ := t p hp
  have ne : ∀ b u, H b = some u → (∃ ps, u = .tbl ps) ∨ (∃ φ, u = .ext φ) → b ≠ a := fun b u e k z => by
    subst z
    rcases k with ⟨q, k⟩ | ⟨q, k⟩
    · exact (ha u e).1 q k
    · exact (ha u e).2 q k
  refine ⟨ps, by rw [upd_ne (ne _ _ h1 (.inl ⟨_, rfl⟩))]; exact h1, h2, fun pos cv hc => ?_⟩
  obtain ⟨x, e1, e2⟩ := h3 pos cv hc
  exact ⟨x, e1, by rw [upd_ne (ne _ _ e2 (.inr ⟨_, rfl⟩))]; exact e2⟩
section
variable {c : Cn} {F : Fr} {ρ : List Sl} {P : Pot} {σ : L2.St} {H G : Hp}
theorem Rel.lt_ap (R : Rel c F ρ P σ H G) {a : Addr} (h : F.ap = some a) : ∃ vs, H a = some (.lst vs) := by
  have z := R.post.pot
  rw [h] at z
  cases P with
  | none => exact z.elim
  | some ds => obtain ⟨vs, z, _⟩ := z; exact ⟨vs, z⟩
theorem Rel.ne_ap (R : Rel c F ρ P σ H G) {a : Addr} (h : H a = none) : some a ≠ F.ap := fun z => by
  obtain ⟨vs, e⟩ := R.lt_ap z.symm
  rw [h] at e; cases e
theorem Post.h0 {ap : Option Addr} {G0 H0 : Hp} (p : Post c ap G0 H0 P G H) {a : Addr} (h : H a = none) : Fre H0 a := p.fre (.of h)
theorem PotOk.ext {G' H' : Hp} {ap : Option Addr} (h : PotOk c G H ap P) (e : Ext G G') (k : ∀ a, ap = some a → H' a = H a) (g : ∀ a, ap = some a → G' a = none) : PotOk c G' H' ap P := by
  cases ap with
  | none => cases P <;> exact h
  | some a =>
    cases P with
    | none => exact h
    | some ds => obtain ⟨vs, h1, h2, h3⟩ := h; exact ⟨vs, by rw [k a rfl]; exact h1, h2.mono e, g a rfl⟩
/-- H changes at p alone, where no one looks; G gets what it may -/
theorem Rel.at (R : Rel c F ρ P σ H G) {p : Addr} {o : HO} (hg : G p = none) (h0 : Fre F.H0 p) (na : some p ≠ F.ap) (ht : ∀ u, H p = some u → (∀ ps, u ≠ .tbl ps) ∧ ∀ φ, u ≠ .ext φ)
    (ow : ∀ (i : Nat) k, ρ[i]? = some (.o k) → σ[i]? ≠ some (some (V.ref p))) : Rel c F ρ P σ (upd H p o) G := by
  have ne : ∀ b u, G b = some u → b ≠ p := fun b u e z => by rw [z, hg] at e; cases e
  refine ⟨⟨R.post.ext, fun a u e => ?_, fun b u e n t => ?_, R.post.new, R.post.pot.ext (Ext.refl _) (fun a e => ?_) (fun a e => ?_), tabs_upd R.post.tab ht, R.post.nt⟩, R.len, fun i s x a b => ?_, R.ap⟩
  · rw [upd_ne (ne a u e)]; exact R.post.le a u e
  · rw [upd_ne (fun z => by rw [z] at e; exact h0.no e t)]; exact R.post.fr b u e n t
  · exact upd_ne (fun z => na (by rw [← z, e]))
  · have z := R.post.pot
    rw [e] at z
    cases P with
    | none => exact z.elim
    | some ds => obtain ⟨_, _, _, z⟩ := z; exact z
  · have z := R.sl i s x a b
    cases s with
    | un => exact True.intro
    | v d => exact z
    | p => exact z
    | o k =>
      obtain ⟨ad, e, ⟨u, hu, hk⟩, g, h, q⟩ := z
      subst e
      exact ⟨ad, rfl, ⟨u, by rw [upd_ne (fun w => ow i k a (by rw [b, w]))]; exact hu, hk⟩, g, h, q⟩
/-- an object that no one has is frozen -/
theorem Rel.freeze (R : Rel c F ρ P σ H G) {p : Addr} {o : HO} (hp : H p = some o) (nt : noTbl o) (h0 : Fre F.H0 p) (na : some p ≠ F.ap)
    (ow : ∀ (i : Nat) k, ρ[i]? = some (.o k) → σ[i]? ≠ some (some (V.ref p))) (hg : G p = none) : Rel c F ρ P σ H (upd G p o) ∧ Ext G (upd G p o) := by
  have ne : ∀ b u, G b = some u → b ≠ p := fun b u e z => by rw [z, hg] at e; cases e
  have ex : Ext G (upd G p o) := fun a u e => by rw [upd_ne (ne a u e)]; exact e
  refine ⟨⟨⟨R.post.ext.trans ex, fun a u e => ?_, R.post.fr, fun a e => ?_, R.post.pot.ext ex (fun _ _ => rfl) (fun a e => ?_), R.post.tab, fun a u e => ?_⟩, R.len, fun i s x a b => ?_, R.ap⟩, ex⟩
  · by_cases z : a = p
    · subst z; rw [upd_same] at e; cases e; exact hp
    · rw [upd_ne z] at e; exact R.post.le a u e
  · by_cases z : a = p
    · subst z; exact .inr (.inl h0)
    · rw [upd_ne z] at e
      rcases R.post.new a e with y | y | ⟨vs, y⟩
      · exact .inl y
      · exact .inr (.inl y)
      · exact .inr (.inr ⟨vs, ex _ _ y⟩)
  · rw [upd_ne (fun z => na (by rw [← z, e]))]
    have z := R.post.pot
    rw [e] at z
    cases P with
    | none => exact z.elim
    | some ds => obtain ⟨_, _, _, z⟩ := z; exact z
  · by_cases z : a = p
    · subst z; rw [upd_same] at e; cases e; exact nt
    · rw [upd_ne z] at e; exact R.post.nt a u e
  · have z := R.sl i s x a b
    cases s with
    | un => exact True.intro
    | v d => obtain ⟨v, e, r⟩ := z; exact ⟨v, e, r.mono ex⟩
    | p => exact z
    | o k =>
      obtain ⟨ad, e, ⟨u, hu, hk⟩, g, h, q⟩ := z
      subst e
      have mono : ∀ {vs ds}, c.reps G vs ds → c.reps (upd G p o) vs ds := fun h => h.mono ex
      refine ⟨ad, rfl, ⟨u, hu, ?_⟩, by rw [upd_ne (fun w => ow i k a (by rw [b, w]))]; exact g, h, q⟩
      cases u <;> cases k <;> first | exact hk.elim | exact mono hk | exact ⟨hk.1, mono hk.2⟩ | exact ⟨hk.1, hk.2.1, mono hk.2.2⟩ | exact ⟨hk.1, hk.2.1, hk.2.2.1, mono hk.2.2.2⟩
theorem Rel.own_at (R : Rel c F ρ P σ H G) {p : Addr} (hp : H p = none) (i : Nat) (k : Cel) (h : ρ[i]? = some (.o k)) : σ[i]? ≠ some (some (V.ref p)) := fun z => by
  obtain ⟨a, e, ⟨u, hu, _⟩, _⟩ := R.sl i _ _ h z
  cases e
  rw [hp] at hu; cases hu
theorem Rel.own_fre (R : Rel c F ρ P σ H G) {p : Addr} (hp : Fre H p) (i : Nat) (k : Cel) (h : ρ[i]? = some (.o k)) : σ[i]? ≠ some (some (V.ref p)) := fun z => by
  obtain ⟨a, e, ⟨u, hu, hk⟩, _⟩ := R.sl i _ _ h z
  cases e
  refine hp.no hu fun ps e2 => ?_
  subst e2
  cases k <;> exact hk
theorem Post.g_none {ap : Option Addr} {G0 H0 : Hp} (p : Post c ap G0 H0 P G H) {a : Addr} (h : H a = none) : G a = none := by
  cases e : G a with
  | none => rfl
  | some o => rw [p.le a o e] at h; cases h
/-- a new object, frozen at once -/
theorem Rel.new (R : Rel c F ρ P σ H G) {p : Addr} {o : HO} (hp : H p = none) (nt : noTbl o) : Rel c F ρ P σ (upd H p o) (upd G p o) ∧ Ext G (upd G p o) := by
  have R1 := R.at (p := p) (o := o) (R.post.g_none hp) (R.post.h0 hp) (R.ne_ap hp) (fun u e => by rw [hp] at e; cases e) (R.own_at hp)
  exact R1.freeze upd_same nt (R.post.h0 hp) (R.ne_ap hp) (R.own_at hp) (R.post.g_none hp)
/-- a new object that nobody has yet -/
theorem Rel.newM (R : Rel c F ρ P σ H G) {p : Addr} {o : HO} (hp : H p = none) : Rel c F ρ P σ (upd H p o) G :=
  R.at (p := p) (o := o) (R.post.g_none hp) (R.post.h0 hp) (R.ne_ap hp) (fun u e => by rw [hp] at e; cases e) (R.own_at hp)
theorem nt_lst {xs : List V} : noTbl (.lst xs) := fun _ h => nomatch h
theorem nt_tup {xs : List V} : noTbl (.tup xs) := fun _ h => nomatch h
theorem nt_dK {xs : List (Key × V)} : noTbl (.dK xs) := fun _ h => nomatch h
theorem nt_ins {C dx : Addr} {fs : List (Str × V)} : noTbl (.ins C dx fs) := fun _ h => nomatch h
end
section
variable {c : Cn} {F : Fr} {W : WX} {ρ : List Sl} {X : Cx} {P : Pot} {σ : L2.St} {H G : Hp}
def mkL (ds : List D) : M D := if ds.length ≤ sizeLine then Pure.pure (.lst ds) else M.no
def mkT (ds : List D) : M D := if ds.length ≤ sizeLine then Pure.pure (.tup ds) else M.no
theorem ArsOk.reps {G : Hp} : ∀ {vs : List V} {as : List Ar} {P : Pot} {ok : List D → Pot → Prop} {ex : Ex → Pot → Prop}, ArsOk c F G vs as → out (DL.vals as) P ok ex → ∃ ds, c.reps G vs ds ∧ ok ds P
  | [], [], _, _, _, _, q => ⟨[], Reps.nil, q⟩
  | v :: vs, .v d :: as, P, ok, ex, ⟨h, t⟩, q => by
    obtain ⟨ds, r, q⟩ := ArsOk.reps t (out_bind.mp q)
    exact ⟨d :: ds, Reps.cons h r, q⟩
  | _ :: _, .p :: _, _, _, _, _, q => q.elim
theorem de_lst {es : List Expr} {pos : Pos} {ms : M (List Ar)} (h : PA X es (rdA c F W ρ ms)) : PE X (.List es pos) (rdE c F W ρ (ms >>= fun as => DL.vals as >>= mkL)) := by
  refine pe_by (pe_lst h) fun σ H Q ⟨P, G, R, q⟩ => ?_
  refine ⟨P, G, R, out_mono (out_bind.mp q) (fun as P1 q1 vs H1 G1 e1 R1 r1 => ?_) fun _ _ z => z⟩
  obtain ⟨ds, r, q2⟩ := r1.reps (out_bind.mp q1)
  unfold mkL at q2
  by_cases hz : ds.length ≤ sizeLine
  · rw [if_pos hz] at q2
    refine ⟨by rw [r.1]; exact hz, fun p hp => ?_⟩
    obtain ⟨R2, e2⟩ := R1.new hp (o := .lst vs) nt_lst
    exact q2 (.ref p) _ _ (e1.trans e2) R2 (.lst upd_same r.1 fun i v d a b => (r.2 i v d a b).mono e2)
  · rw [if_neg hz] at q2; exact q2.elim
theorem de_tup {es : List Expr} {k : Nat} {pos : Pos} {ms : M (List Ar)} (h : PA X es (rdA c F W ρ ms)) : PE X (.Tuple es k pos) (rdE c F W ρ (ms >>= fun as => DL.vals as >>= mkT)) := by
  refine pe_by (pe_tup h) fun σ H Q ⟨P, G, R, q⟩ => ?_
  refine ⟨P, G, R, out_mono (out_bind.mp q) (fun as P1 q1 vs H1 G1 e1 R1 r1 => ?_) fun _ _ z => z⟩
  obtain ⟨ds, r, q2⟩ := r1.reps (out_bind.mp q1)
  unfold mkT at q2
  by_cases hz : ds.length ≤ sizeLine
  · rw [if_pos hz] at q2
    refine ⟨by rw [r.1]; exact hz, fun p hp => ?_⟩
    obtain ⟨R2, e2⟩ := R1.new hp (o := .tup vs) nt_tup
    exact q2 (.ref p) _ _ (e1.trans e2) R2 (.tup (SqT.of upd_same) r.1 fun i v d a b => (r.2 i v d a b).mono e2)
  · rw [if_neg hz] at q2; exact q2.elim
/-- a built-in by its values: r what it asks, f what it gives -/
def CallD (c : Cn) (r : List V → Hp → VK → Prop) (f : List D → M D) : Prop := ∀ F ρ W P σ H G vs ds Q, Rel c F ρ P σ H G → c.reps G vs ds →
  out (f ds) P (fun d P' => ∀ v H' G', Ext G G' → Rel c F ρ P' σ H' G' → c.rep G' v d → Q v H') (exW c F W P G σ) → r vs H Q
theorem call_rd {r : List V → Hp → VK → Prop} {f : List D → M D} {ms : M (List Ar)} (hf : CallD c r f) {Q : VK} (h : rdE c F W ρ (ms >>= fun as => DL.vals as >>= f) σ H Q) : tCB r (rdA c F W ρ ms) σ H Q := by
  obtain ⟨P, G, R, q⟩ := h
  refine ⟨P, G, R, out_mono (out_bind.mp q) (fun as P1 q1 vs H1 G1 e1 R1 r1 => ?_) fun _ _ z => z⟩
  obtain ⟨ds, rr, q2⟩ := r1.reps (out_bind.mp q1)
  exact hf F ρ W P1 σ H1 G1 vs ds Q R1 rr (out_mono q2 (fun d P3 q3 v3 H3 G3 e3 R3 r3 => q3 v3 H3 G3 (e1.trans e3) R3 r3) fun _ _ z => exW_le e1 z)
theorem de_blt {id : String} {r : List V → Hp → VK → Prop} {f : List D → M D} {ms : M (List Ar)} {x : Str} {p pos : Pos} {e : Expr} {es : List Expr} (hc : CallR X (.builtin id) r) (hf : CallD c r f) (hg : Gl X x) (hm : X.mg x = none) (hv : bootBuiltins x = some (.builtin id)) (ha : PA X (e :: es) (rdA c F W ρ ms))
    (hn : x ≠ "__name__" := by decide) (hdb : (x == ("__debug__" : Str)) = false := by decide) (he : starEach (e :: es) X.env = (false, eval e X.env) :: starEach es X.env := by rfl) (hpl : (backTo pos (starEach es X.env)).any (·.1) = false := by rfl) :
    PE X (.Call (.Name x p) (e :: es) [] pos) (rdE c F W ρ (ms >>= fun as => DL.vals as >>= f)) := pe_by (pe_callB hc hg hm hv ha hn hdb he hpl) fun _ _ _ => call_rd hf
theorem de_ty {T : String} {r : List V → Hp → VK → Prop} {f : List D → M D} {ms : M (List Ar)} {x : Str} {p pos : Pos} {e : Expr} {es : List Expr} (hc : CallR X (.type T) r) (hf : CallD c r f) (hg : Gl X x) (hm : X.mg x = none) (hv : bootBuiltins x = some (.type T)) (ha : PA X (e :: es) (rdA c F W ρ ms))
    (hn : x ≠ "__name__" := by decide) (hdb : (x == ("__debug__" : Str)) = false := by decide) (he : starEach (e :: es) X.env = (false, eval e X.env) :: starEach es X.env := by rfl) (hpl : (backTo pos (starEach es X.env)).any (·.1) = false := by rfl) :
    PE X (.Call (.Name x p) (e :: es) [] pos) (rdE c F W ρ (ms >>= fun as => DL.vals as >>= f)) := pe_by (pe_callTy hc hg hm hv ha hn hdb he hpl) fun _ _ _ => call_rd hf
end
/-- what the iterator yields: ds, one by one -/
def Goes (c : Cn) (J : It) (ds : List D) (G1 : Hp) : Prop := ∀ (F : Fr) (ρ : List Sl) (i : Nat) (P : Pot) (σ : L2.St) (H G : Hp), Ext G1 G → Rel c F ρ P σ H G →
  (ds.length = i → J.stop i H) ∧ ∀ d, ds[i]? = some d → J.go i H ∧ ∀ x H', J.yld i H x H' → ∃ G', Ext G G' ∧ Rel c F ρ P σ H' G' ∧ c.rep G' x d
section
variable (c : Cn) (F : Fr) (W : WX) (ρ : List Sl)
def rdI (m : M (List D)) : TI := fun σ H R => ∃ P G, Rel c F ρ P σ H G ∧ out m P (fun ds P' => ∀ J H' G', Ext G G' → Rel c F ρ P' σ H' G' → Goes c J ds G' → R J H') (exW c F W P G σ)
/-- a target: which slots come of the value -/
def rdG (t : D → Option (List Sl)) : TG := fun v σ H Q => ∃ P G d ρ', Rel c F ρ P σ H G ∧ c.rep G v d ∧ t d = some ρ' ∧ ∀ σ' H' G', Ext G G' → Rel c F ρ' P σ' H' G' → Q σ' H'
end
section
variable {c : Cn} {F : Fr} {W : WX} {ρ : List Sl} {X : Cx} {tg : Expr}
theorem pi_or {iter : Expr} {w w' : TI} (h : PI X tg iter w) (h' : PI X tg iter w') : PI X tg iter (fun σ H R => w σ H R ∨ w' σ H R) :=
  ⟨fun pins s σ H R I q => q.elim (h.run pins s σ H R I) (h'.run pins s σ H R I)⟩
theorem pi_by {iter : Expr} {w w' : TI} (h : PI X tg iter w) (k : ∀ σ H R, w' σ H R → w σ H R) : PI X tg iter w' := ⟨fun pins s σ H R I q => h.run pins s σ H R I (k σ H R q)⟩
theorem pg_by {t t' : TG} (h : PG X tg t) (k : ∀ v σ H Q, t' v σ H Q → t v σ H Q) : PG X tg t' := ⟨fun pins s σ H v u Q I r q => h.run pins s σ H v u Q I r (k v σ H Q q)⟩
/-- what a for walks, by the value -/
def iterD : D → M (List D)
  | .lst ds => Pure.pure ds
  | .tup ds => Pure.pure ds
  | .scr ns => Pure.pure (ns.map .int)
  | _ => M.no
theorem goes_lst {a : Addr} {vs : List V} {ds : List D} {G : Hp} {K : PySem.W.Frag} (h : SqL K G a vs) (r : c.reps G vs ds) (hK : K = c.K) : Goes c (Itl K a) ds G := by
  intro F ρ i P σ H G1 e R
  have hL : SqL K H a vs := Evl.ex_l (e.trans R.post.le) h
  refine ⟨fun hi => ⟨vs, hL, by rw [r.1]; exact Nat.le_of_eq hi⟩, fun d hd => ?_⟩
  obtain ⟨v, hv, rv⟩ := r.get hd
  refine ⟨⟨vs, v, hL, hv⟩, fun x H' y => ?_⟩
  obtain ⟨rfl, y⟩ := y
  have := y vs hL
  rw [hv] at this
  cases this
  exact ⟨G1, Ext.refl _, R, rv.mono e⟩
theorem goes_tup {a : Addr} {vs : List V} {ds : List D} {G : Hp} {K : PySem.W.Frag} (h : SqT K G a vs) (r : c.reps G vs ds) (hK : K = c.K) : Goes c (Itt K a) ds G := by
  intro F ρ i P σ H G1 e R
  have hL : SqT K H a vs := Evl.ex_t (e.trans R.post.le) h
  refine ⟨fun hi => ⟨vs, hL, by rw [r.1]; exact Nat.le_of_eq hi⟩, fun d hd => ?_⟩
  obtain ⟨v, hv, rv⟩ := r.get hd
  refine ⟨⟨vs, v, hL, hv⟩, fun x H' y => ?_⟩
  obtain ⟨rfl, y⟩ := y
  have := y vs hL
  rw [hv] at this
  cases this
  exact ⟨G1, Ext.refl _, R, rv.mono e⟩
theorem reps_ints {G : Hp} : ∀ ns : List Int, c.reps G (ns.map V.int) (ns.map D.int)
  | [] => Reps.nil
  | n :: ns => Reps.cons (.int n) (reps_ints ns)
/-- over a list, a tuple, the script -/
theorem di_seq {e : Expr} {m : M D} (hK : X.K = c.K) (h : PE X e (rdE c F W ρ m)) : PI X tg e (rdI c F W ρ (m >>= iterD)) := by
  refine pi_by (pi_or (pi_list h) (pi_tup h)) fun σ H R q => ?_
  obtain ⟨P, G, Rl, q⟩ := q
  have q' := out_bind.mp q
  cases e : m P with
  | no => unfold out at q'; rw [e] at q'; exact q'.elim
  | ex x p =>
    refine .inl ⟨P, G, Rl, ?_⟩
    unfold out at q' ⊢
    rw [e] at q' ⊢
    exact q'
  | ok d p =>
    unfold out at q'
    rw [e] at q'
    cases d with
    | lst ds =>
      refine .inl ⟨P, G, Rl, ?_⟩
      unfold out
      rw [e]
      intro v H1 G1 e1 R1 r1
      cases r1 with
      | lst ha hl hr => exact ⟨_, rfl, ⟨_, SqL.of (R1.post.le _ _ ha)⟩, q' _ H1 G1 e1 R1 (goes_lst (SqL.of ha) ⟨hl, hr⟩ hK)⟩
    | tup ds =>
      refine .inr ⟨P, G, Rl, ?_⟩
      unfold out
      rw [e]
      intro v H1 G1 e1 R1 r1
      cases r1 with
      | tup ha hl hr => rw [← hK] at ha; exact ⟨_, rfl, ⟨_, Evl.ex_t R1.post.le ha⟩, q' _ H1 G1 e1 R1 (goes_tup ha ⟨hl, hr⟩ hK)⟩
    | scr ns =>
      refine .inl ⟨P, G, Rl, ?_⟩
      unfold out
      rw [e]
      intro v H1 G1 e1 R1 r1
      cases r1 with
      | scr ha => rw [← hK] at ha; exact ⟨_, rfl, ⟨_, Evl.ex_l R1.post.le ha⟩, q' _ H1 G1 e1 R1 (goes_lst ha (reps_ints ns) hK)⟩
    | _ => exact q'.elim
theorem goes_rng (lo : Int) (n : Nat) (G : Hp) : Goes c (Itr lo n) ((List.range n).map fun i => .int (lo + (i : Nat))) G := by
  intro F ρ i P σ H G1 e R
  refine ⟨fun hi => (show n ≤ i by simpa using Nat.le_of_eq hi), fun d hd => ?_⟩
  have hi : i < n := by
    have := (List.getElem?_eq_some_iff.mp hd).1
    simpa using this
  refine ⟨hi, fun x H' y => ?_⟩
  obtain ⟨rfl, rfl⟩ := y
  rw [List.getElem?_map, List.getElem?_range hi] at hd
  cases hd
  exact ⟨G1, Ext.refl _, R, .int _⟩
def rngs (lo hi : Int) : List D := (List.range (hi - lo).toNat).map fun i => .int (lo + (i : Nat))
def rng1 : List Ar → M (List D)
  | [.v (.int j)] => if -(2 ^ 62) ≤ j ∧ j < 2 ^ 62 then Pure.pure (rngs 0 j) else M.no
  | _ => M.no
theorem di_rng1 {a : Expr} {ms : M (List Ar)} {p pos : Pos} (hg : Gl X "range") (hm : X.mg "range" = none) (ha : PA X [a] (rdA c F W ρ ms)) (hs : starEach [a] X.env = [(false, eval a X.env)] := by rfl) : PI X tg (.Call (.Name "range" p) [a] [] pos) (rdI c F W ρ (ms >>= rng1)) := by
  refine pi_by (pi_range1 hg hm ha hs) fun σ H R ⟨P, G, Rl, q⟩ => ?_
  refine ⟨P, G, Rl, out_mono (out_bind.mp q) (fun as P1 q1 vs H1 G1 e1 R1 r1 => ?_) fun _ _ z => z⟩
  unfold rng1 at q1
  split at q1
  · rename_i j
    split at q1
    · rename_i hb
      obtain ⟨v, rfl⟩ : ∃ v, vs = [v] := by
        match vs, r1 with
        | [v], _ => exact ⟨v, rfl⟩
      have rv : c.rep G1 v (.int j) := r1.1
      rw [rv.int_of]
      refine ⟨j, rfl, hb.1, hb.2, q1 _ H1 G1 e1 R1 ?_⟩
      have := goes_rng (c := c) 0 j.toNat G1
      show Goes c (Itr 0 j.toNat) (rngs 0 j) G1
      unfold rngs
      rw [Int.sub_zero]
      exact this
    · exact q1.elim
  · exact q1.elim
theorem dg_name {i : Nat} {x : Str} {pos : Pos} (hN : X.N.Nodup) (hi : X.N[i]? = some x) (hx : Loc X.env.scope x) (hf : X.fn x = true ∨ X.env.scope.names.lookup x = some .local := by first | exact .inl rfl | exact .inr rfl | assumption) :
    PG X (.Name x pos) (rdG c F ρ fun d => some (ρ.set i (.v d))) := by
  refine pg_by (pg_name hN hi hx hf) fun v σ H Q ⟨P, G, d, ρ', R, r, e, q⟩ => ?_
  cases e
  exact q _ H G (Ext.refl _) (R.set r)
end
/-- a for: b is its body, a what it carries -/
def forF {α : Type} (b : α → D → M (Fl α)) : List D → α → M (Fl α)
  | [], a => Pure.pure (.nx a)
  | d :: ds, a => b a d >>= fun f => match f with
    | .nx a => forF b ds a
    | .ct a => forF b ds a
    | .bk a => Pure.pure (.nx a)
    | .rt d => Pure.pure (.rt d)
section
variable {c : Cn} {F : Fr} {W : WX} {ρ : List Sl} {X : Cx} {α : Type} {E : α → List Sl}
/-- what is wanted behind a block, from the base G -/
def ends (c : Cn) (F : Fr) (E : α → List Sl) (B : Ends) (G : Hp) : Fl α → Pot → Prop := fun f P' => match f with
    | .nx a => ∀ σ' H' G', Ext G G' → Rel c F (E a) P' σ' H' G' → B.nx σ' H'
    | .bk a => ∀ σ' H' G', Ext G G' → Rel c F (E a) P' σ' H' G' → B.bk σ' H'
    | .ct a => ∀ σ' H' G', Ext G G' → Rel c F (E a) P' σ' H' G' → B.ct σ' H'
    | .rt d => ∀ v H' G' ρ' σ', Ext G G' → Rel c F ρ' P' σ' H' G' → c.rep G' v d → B.rt v H'
theorem ends_le {B : Ends} {G G' : Hp} (e : Ext G G') {f : Fl α} {P : Pot} (h : ends c F E B G f P) : ends c F E B G' f P := by
  cases f with
  | nx b => exact fun σ2 H2 G2 e2 R2 => h σ2 H2 G2 (e.trans e2) R2
  | bk b => exact fun σ2 H2 G2 e2 R2 => h σ2 H2 G2 (e.trans e2) R2
  | ct b => exact fun σ2 H2 G2 e2 R2 => h σ2 H2 G2 (e.trans e2) R2
  | rt d => exact fun v H2 G2 ρ2 σ2 e2 R2 r2 => h v H2 G2 ρ2 σ2 (e.trans e2) R2 r2
theorem ds_for {tg iter : Expr} {body : List Stmt} {pos : Pos} {mi : M (List D)} {a₀ : α} {b : α → D → M (Fl α)} {t : α → D → Option (List Sl)} (hp : PassesOwn (model X.prog X.w) X.A X.env X.xe) (hc : X.calm = true)
    (hρ : ∀ {P σ H G}, Rel c F ρ P σ H G → Rel c F (E a₀) P σ H G)
    (hi : PI X tg iter (rdI c F W ρ mi)) (hg : PG X tg (fun v σ H Q => ∃ a, rdG c F (E a) (t a) v σ H Q)) (ht : ∀ a d, t a d = none → b a d = M.no) (hb : PSs X body (fun B σ H => ∃ a d ρ', t a d = some ρ' ∧ rdS c F W ρ' E (b a d) B σ H))
    (hs : ∀ x, foldedSetIterable iter X.env x = pure x := by intro _; rfl) :
    PS X (.For tg iter body [] pos) (rdS c F W ρ E (mi >>= fun ds => forF b ds a₀)) := by
  refine ps_by (ps_for hp hc hi hg hb hs) fun B σ H ⟨P, G, R, q⟩ => ?_
  refine ⟨P, G, R, out_mono (out_bind.mp q) (fun ds P1 q1 J H1 G1 e1 R1 go => ?_) fun _ _ z => exS.w z⟩
  refine ⟨fun i m σ H => m = ds.length - i ∧ i ≤ ds.length ∧ ∃ a P' G', Ext G1 G' ∧ Rel c F (E a) P' σ H G' ∧ out (forF b (ds.drop i) a) P' (ends c F E B G') (exS c F W P' G' σ),
    ⟨ds.length, by simp, Nat.zero_le _, a₀, P1, G1, Ext.refl _, hρ R1, out_mono q1 (fun f p z => ends_le e1 z) fun _ _ z => exS_le e1 z⟩, ?_⟩
  rintro i m σ2 H2 ⟨rfl, hi2, a, P2, G2, e2, R2, q2⟩
  by_cases hl : i < ds.length
  · have hd : ds[i]? = some ds[i] := List.getElem?_eq_getElem hl
    obtain ⟨g1, g2⟩ := (go F (E a) i P2 σ2 H2 G2 e2 R2).2 _ hd
    rw [List.drop_eq_getElem_cons hl] at q2
    have q3 := out_bind.mp q2
    refine .inr ⟨g1, fun σ' H' => ∃ a P' G', Ext G2 G' ∧ Rel c F (E a) P' σ' H' G' ∧ out (forF b (ds.drop (i + 1)) a) P' (ends c F E B G') (exS c F W P' G' σ'),
      fun σ' H' ⟨a', P', G', e', R', q'⟩ => ⟨ds.length - (i + 1), by omega, rfl, hl, a', P', G', e2.trans e', R', q'⟩, fun x H3 y => ?_⟩
    obtain ⟨G3, e3, R3, r3⟩ := g2 x H3 y
    refine ⟨a, ?_⟩
    cases hh : t a ds[i] with
    | none => rw [ht _ _ hh] at q3; exact q3.elim
    | some ρ' =>
      refine ⟨P2, G3, ds[i], ρ', R3, r3, hh, fun σ4 H4 G4 e4 R4 => ?_⟩
      refine ⟨a, ds[i], ρ', hh, P2, G4, R4, out_mono q3 (fun f P5 q5 => ?_) fun _ _ z => exS_le (e3.trans e4) z⟩
      have e24 := e3.trans e4
      cases f with
      | nx a' => exact fun σ6 H6 G6 e6 R6 => ⟨a', P5, G6, e24.trans e6, R6, out_mono q5 (fun f p z => ends_le (e24.trans e6) z) fun _ _ z => exS_le (e24.trans e6) z⟩
      | ct a' => exact fun σ6 H6 G6 e6 R6 => ⟨a', P5, G6, e24.trans e6, R6, out_mono q5 (fun f p z => ends_le (e24.trans e6) z) fun _ _ z => exS_le (e24.trans e6) z⟩
      | bk a' => exact fun σ6 H6 G6 e6 R6 => (show ∀ σ' H' G', Ext G2 G' → Rel c F (E a') P5 σ' H' G' → B.nx σ' H' from q5) σ6 H6 G6 (e24.trans e6) R6
      | rt d => exact fun v H6 G6 ρ6 σ6 e6 R6 r6 => (show ∀ v H' G' ρ' σ', Ext G2 G' → Rel c F ρ' P5 σ' H' G' → c.rep G' v d → B.rt v H' from q5) v H6 G6 ρ6 σ6 (e24.trans e6) R6 r6
  · have ei : i = ds.length := by omega
    subst ei
    rw [List.drop_eq_nil_of_le (Nat.le_refl _)] at q2
    exact .inl ⟨(go F (E a) _ P2 σ2 H2 G2 e2 R2).1 rfl, (show ∀ σ' H' G', Ext G2 G' → Rel c F (E a) P2 σ' H' G' → B.nx σ' H' from q2) σ2 H2 G2 (Ext.refl _) R2⟩
end
/-- from derivations for every a to one reading -/
theorem pss_ex {X : Cx} {b : List Stmt} {ι : Sort _} {t : ι → TS} (h : ∀ a, PSs X b (t a)) : PSs X b (fun B σ H => ∃ a, t a B σ H) := ⟨fun pins s σ H D I ⟨a, q⟩ => (h a).run pins s σ H D I q⟩
theorem pg_ex {X : Cx} {e : Expr} {ι : Sort _} {t : ι → TG} (h : ∀ a, PG X e (t a)) : PG X e (fun v σ H Q => ∃ a, t a v σ H Q) := ⟨fun pins s σ H v u Q I r ⟨a, q⟩ => (h a).run pins s σ H v u Q I r q⟩
theorem pss_for {c : Cn} {F : Fr} {W : WX} {X : Cx} {α : Type} {E : α → List Sl} {body : List Stmt} {t : α → D → Option (List Sl)} {b : α → D → M (Fl α)} (h : ∀ a d ρ', t a d = some ρ' → PSs X body (rdS c F W ρ' E (b a d))) :
    PSs X body (fun B σ H => ∃ a d ρ', t a d = some ρ' ∧ rdS c F W ρ' E (b a d) B σ H) := ⟨fun pins s σ H D I ⟨a, d, ρ', e, q⟩ => (h a d ρ' e).run pins s σ H D I q⟩
/-- nothing may be raised -/
def noEx {α : Type} (m : M α) : M α := fun P => match m P with
  | .ok a p => .ok a p
  | _ => .no
theorem out_noEx {α : Type} {m : M α} {P : Pot} {ok : α → Pot → Prop} {ex : Ex → Pot → Prop} (h : out (noEx m) P ok ex) : out m P ok (fun _ _ => False) := by
  unfold out noEx at *
  cases e : m P <;> rw [e] at h <;> exact h
theorem noEx_ok {α : Type} {m : M α} {P P' : Pot} {a : α} (h : m P = .ok a P') : noEx m P = .ok a P' := by unfold noEx; rw [h]
def compF (t : D → M Bool) (e : D → M D) : List D → M (List D)
  | [] => Pure.pure []
  | d :: ds => noEx (t d) >>= fun x => if x = true then noEx (e d) >>= fun y => noEx (compF t e ds) >>= fun ys => Pure.pure (y :: ys) else compF t e ds
def wipeS (ρ : List Sl) : List Nat → List Sl
  | [] => ρ
  | i :: is => (wipeS ρ is).set i .un
/-- a comprehension's target by its reading -/
def Tgt (c : Cn) (g : TG) (t : List Sl → D → Option (List Sl)) (vs : List Nat) : Prop := ∀ (F : Fr) (ρ ρ' : List Sl) (P : Pot) (σ : L2.St) (H G : Hp) (v : V) (d : D) (Q : L2.St → Hp → Prop), Rel c F ρ P σ H G → c.rep G v d → t ρ d = some ρ' →
  (∀ σ', Rel c F ρ' P σ' H G → wipe σ' vs = wipe σ vs → Q σ' H) → g v σ H Q
section
variable {c : Cn} {F : Fr} {W : WX} {ρ : List Sl} {X : Cx}
theorem Rel.un {P : Pot} {σ : L2.St} {H G : Hp} {i : Nat} {x : Option V} (R : Rel c F ρ P σ H G) : Rel c F (ρ.set i .un) P (σ.set i x) H G := by
  refine ⟨R.post, by simp [R.len], fun j s y a b => ?_, fun j j' k k' a h1 h2 h3 h4 => ?_⟩
  · rw [List.getElem?_set] at a b
    by_cases e : i = j
    · rw [if_pos e] at a
      split at a
      · cases a; exact True.intro
      · cases a
    · rw [if_neg e] at a b
      exact R.sl j s y a b
  · have ne : ∀ {m : Nat} {kk : Cel}, (ρ.set i Sl.un)[m]? = some (.o kk) → i ≠ m := fun {m kk} h e => by
      rw [List.getElem?_set, if_pos e] at h
      split at h <;> cases h
    have n1 := ne h1
    have n2 := ne h2
    rw [List.getElem?_set_ne n1] at h1 h3
    rw [List.getElem?_set_ne n2] at h2 h4
    exact R.ap j j' k k' a h1 h2 h3 h4
end
/-- own objects are not seen within -/
def unO : Sl → Sl
  | .o _ => .un
  | s => s
theorem wipe_set {σ : L2.St} {i : Nat} {x : Option V} : ∀ {vs : List Nat}, i ∈ vs → wipe (σ.set i x) vs = wipe σ vs
  | [], h => absurd h (by simp)
  | v :: vs, h => by
    show (wipe (σ.set i x) vs).set v none = (wipe σ vs).set v none
    by_cases hm : i ∈ vs
    · rw [wipe_set hm]
    · have e : v = i := by
        rcases List.mem_cons.mp h with e | e
        · exact e.symm
        · exact absurd e hm
      subst e
      have out : ∀ {us : List Nat}, v ∉ us → wipe (σ.set v x) us = (wipe σ us).set v x := by
        intro us
        induction us with
        | nil => intro _; rfl
        | cons u us ih =>
          intro hu
          have h1 : u ≠ v := fun e => hu (by rw [e]; exact List.mem_cons_self)
          show (wipe (σ.set v x) us).set u none = ((wipe σ us).set u none).set v x
          rw [ih fun m => hu (List.mem_cons_of_mem _ m), List.set_comm _ _ (Ne.symm h1)]
      rw [out hm, List.set_set]
theorem wipe_idem {σ : L2.St} (vs : List Nat) : wipe (wipe σ vs) vs = wipe σ vs := by
  have key : ∀ us : List Nat, (∀ i ∈ us, i ∈ vs) → wipe (wipe σ us) vs = wipe σ vs := by
    intro us
    induction us with
    | nil => intro _; rfl
    | cons u us ih =>
      intro h
      show wipe ((wipe σ us).set u none) vs = _
      rw [wipe_set (h u List.mem_cons_self)]
      exact ih fun i hi => h i (List.mem_cons_of_mem _ hi)
  exact key vs fun _ h => h
abbrev W0 : WX := fun _ _ _ _ => False
/-- the tests of a comprehension -/
def TestOk (c : Cn) (tt : TT) (t : D → Option (List Sl)) (mt : D → M Bool) : Prop := ∀ (F : Fr) (d : D) (ρ' : List Sl) (P : Pot) (σ : L2.St) (H G : Hp) (Q : Bool → Hp → Prop), Rel c F ρ' P σ H G → t d = some ρ' →
  out (mt d) P (fun b P' => ∀ H' G', Ext G G' → Rel c F ρ' P' σ H' G' → Q b H') (fun _ _ => False) → tt σ H Q
section
variable {c : Cn} {F : Fr} {W : WX} {ρ : List Sl} {X : Cx}
theorem Rel.sub {P : Pot} {σ : L2.St} {H G : Hp} (R : Rel c F ρ P σ H G) : Rel c ⟨G, H, F.ap⟩ (ρ.map unO) P σ H G := by
  have no : ∀ (i : Nat) k, (ρ.map unO)[i]? ≠ some (.o k) := fun i k e => by
    rw [List.getElem?_map] at e
    cases h : ρ[i]? with
    | none => rw [h] at e; cases e
    | some s => rw [h] at e; cases s <;> cases e
  refine ⟨R.post.refl', by simpa using R.len, fun i s x a b => ?_, fun i j k k' a h1 _ _ _ => absurd h1 (no i k)⟩
  rw [List.getElem?_map] at a
  cases h : ρ[i]? with
  | none => rw [h] at a; cases a
  | some s' =>
    rw [h] at a
    have z := R.sl i s' x h b
    cases s' <;> cases a
    · exact True.intro
    · exact z
    · exact True.intro
    · exact z
theorem Rel.wipe {P : Pot} {σ : L2.St} {H G : Hp} (R : Rel c F ρ P σ H G) : ∀ vs : List Nat, Rel c F (wipeS ρ vs) P (L2.wipe σ vs) H G
  | [] => R
  | v :: vs => (Rel.wipe R vs).un
theorem tgt_name {i : Nat} {vs : List Nat} (h : i ∈ vs) : Tgt c (gName i) (fun ρ d => some (ρ.set i (.v d))) vs := by
  intro F ρ ρ' P σ H G v d Q R r e q
  cases e
  exact q _ (R.set r) (wipe_set h)
theorem test_yes {t : D → Option (List Sl)} : TestOk c tYes t (fun _ => Pure.pure true) := fun F d ρ' P σ H G Q R e q => q H G (Ext.refl _) R
theorem test_rd {t : D → Option (List Sl)} {mt : D → M Bool} : TestOk c (fun σ H Q => ∃ F d ρ', t d = some ρ' ∧ rdT c F W0 ρ' (mt d) σ H Q) t mt := fun F d ρ' P σ H G Q R e q =>
  ⟨F, d, ρ', e, P, G, R, out_mono q (fun _ _ z => z) fun _ _ z => z.elim⟩
theorem out_noEx_bind {α β : Type} {m : M α} {k : α → M β} {P : Pot} {ok : β → Pot → Prop} {ex : Ex → Pot → Prop} (h : out (noEx m >>= k) P ok ex) : ∃ a p, m P = .ok a p ∧ out (k a) p ok ex := by
  have h := out_bind.mp h
  unfold out noEx at h
  cases e : m P with
  | ok a p => rw [e] at h; exact ⟨a, p, rfl, h⟩
  | ex x p => rw [e] at h; exact h.elim
  | no => rw [e] at h; exact h.elim
theorem out_eq {α : Type} {m : M α} {P p : Pot} {a : α} {ok : α → Pot → Prop} {ex : Ex → Pot → Prop} (h : m P = .ok a p) : out m P ok ex ↔ ok a p := by unfold out; rw [h]
theorem lc_rd {wi : TI} {g : TG} {tt : TT} {vs : List Nat} {mi : M (List D)} {t : List Sl → D → Option (List Sl)} {mt : D → M Bool} {me : D → M D} (hw : ∀ σ H R, rdI c F W ρ mi σ H R → wi σ H R) (tg : Tgt c g t vs)
    (hno : ∀ ρ d, t ρ d = none → mt d = M.no) (htt : TestOk c tt (t (wipeS (ρ.map unO) vs)) mt) {σ : L2.St} {H : Hp} {Q : VK} (q : rdE c F W ρ (mi >>= fun ds => noEx (compF mt me ds) >>= mkL) σ H Q) :
    tLc wi g tt (fun σ H Q => ∃ F d ρ', t (wipeS (ρ.map unO) vs) d = some ρ' ∧ rdE c F W0 ρ' (me d) σ H Q) vs σ H Q := by
  obtain ⟨P, G, R, q⟩ := q
  refine hw _ _ _ ⟨P, G, R, out_mono (out_bind.mp q) (fun ds P1 q1 J H1 G1 e1 R1 go D hD => ?_) fun _ _ z => z⟩
  have ow := R1.own_at hD
  have h0 := R1.post.h0 hD
  have na := R1.ne_ap hD
  refine ⟨fun i m Hx => m = ds.length - i ∧ i ≤ ds.length ∧ ∃ (acc : List V) (ad : List DL.D) (P' : Pot) (G' : Hp), Ext G1 G' ∧ Rel c F ρ P' σ Hx G' ∧ Hx D = some (.lst acc) ∧ G' D = none ∧ c.reps G' acc ad ∧
    out (noEx (compF mt me (ds.drop i)) >>= fun ys => mkL (ad ++ ys)) P' (fun d P' => ∀ v H' G'', Ext G' G'' → Rel c F ρ P' σ H' G'' → c.rep G'' v d → Q v H') (exW c F W P' G' σ),
    ⟨ds.length, by simp, Nat.zero_le _, [], [], P1, G1, Ext.refl _, R1.newM hD, upd_same, R1.post.g_none hD, Reps.nil, out_mono q1 (fun d p z v H' G'' e => z v H' G'' (e1.trans e)) fun _ _ z => exW_le e1 z⟩, ?_⟩
  rintro i m Hx ⟨rfl, hi, acc, ad, P2, G2, e2, R2, hx, gx, ra, q2⟩
  by_cases hl : i < ds.length
  · have hd : ds[i]? = some ds[i] := List.getElem?_eq_getElem hl
    have S2 := R2.sub
    obtain ⟨g1, g2⟩ := (go _ _ i P2 σ Hx G2 e2 S2).2 _ hd
    rw [List.drop_eq_getElem_cons hl] at q2
    obtain ⟨ys, p, hy, q3⟩ := out_noEx_bind q2
    refine .inr ⟨g1, fun H' => ∃ (acc : List V) (ad : List DL.D) (P' : Pot) (G' : Hp), Ext G1 G' ∧ Rel c F ρ P' σ H' G' ∧ H' D = some (.lst acc) ∧ G' D = none ∧ c.reps G' acc ad ∧
      out (noEx (compF mt me (ds.drop (i + 1))) >>= fun ys => mkL (ad ++ ys)) P' (fun d P' => ∀ v H' G'', Ext G' G'' → Rel c F ρ P' σ H' G'' → c.rep G'' v d → Q v H') (exW c F W P' G' σ), fun H' z => ⟨ds.length - (i + 1), by omega, rfl, hl, z⟩, fun x H3 y => ?_⟩
    obtain ⟨G3, e3, R3, r3⟩ := g2 x H3 y
    -- what one turn gives
    have hy' : (noEx (mt ds[i]) >>= fun x => if x = true then noEx (me ds[i]) >>= fun y => noEx (compF mt me (ds.drop (i + 1))) >>= fun ys => Pure.pure (y :: ys) else compF mt me (ds.drop (i + 1))) P2 = .ok ys p := hy
    have o1 : out (noEx (mt ds[i]) >>= fun x => if x = true then noEx (me ds[i]) >>= fun y => noEx (compF mt me (ds.drop (i + 1))) >>= fun ys => Pure.pure (y :: ys) else compF mt me (ds.drop (i + 1))) P2 (fun z zp => z = ys ∧ zp = p) (fun _ _ => False) := (out_eq hy').mpr ⟨rfl, rfl⟩
    obtain ⟨b, P3, hb, o2⟩ := out_noEx_bind o1
    cases ht : t (wipeS (ρ.map unO) vs) ds[i] with
    | none =>
      rw [hno _ _ ht] at hb
      cases hb
    | some ρ' =>
      refine tg _ _ ρ' P2 _ H3 G3 x ds[i] _ (R3.wipe vs) r3 ht fun σ4 R4 w4 => ⟨w4.trans (wipe_idem vs), ?_⟩
      refine htt _ _ ρ' P2 σ4 H3 G3 _ R4 ht ((out_eq hb).mpr fun H5 G5 e5 R5 => ?_)
      cases b with
      | false =>
        have hz : compF mt me (ds.drop (i + 1)) P3 = .ok ys p := by
          have : out (compF mt me (ds.drop (i + 1))) P3 (fun z zp => z = ys ∧ zp = p) (fun _ _ => False) := o2
          unfold out at this
          cases k : compF mt me (ds.drop (i + 1)) P3 with
          | ok a b => rw [k] at this; rw [this.1, this.2]
          | ex _ _ => rw [k] at this; exact this.elim
          | no => rw [k] at this; exact this.elim
        have A5 := R2.after R5.post
        have e25 : Ext G2 G5 := R5.post.ext
        have g5 : G5 D = none := by
          cases z : G5 D with
          | none => rfl
          | some u =>
            rcases R5.post.new D (by rw [z]; simp) with h | h | ⟨_, h⟩
            · exact absurd gx h
            · exact (Fre.no (H := Hx) h hx (fun _ q => nomatch q)).elim
            · have y := R5.post.le _ _ h
              rw [R5.post.fr D _ hx na nt_lst] at y
              cases y
        exact ⟨acc, ad, P3, G5, e2.trans e25, A5, R5.post.fr D _ hx na nt_lst, g5, ra.mono e25, out_bind.mpr ((out_eq (noEx_ok hz)).mpr (out_mono q3 (fun d p z v H' G'' e => z v H' G'' (e25.trans e)) fun _ _ z => exW_le e25 z))⟩
      | true =>
        have o3 := out_noEx_bind (show out (noEx (me ds[i]) >>= fun y => noEx (compF mt me (ds.drop (i + 1))) >>= fun ys => Pure.pure (y :: ys)) P3 (fun z zp => z = ys ∧ zp = p) (fun _ _ => False) from o2)
        obtain ⟨yd, P4, hyd, o4⟩ := o3
        obtain ⟨ys', p', hys, o5⟩ := out_noEx_bind o4
        have o5' : yd :: ys' = ys ∧ p' = p := o5
        obtain ⟨e6, e7⟩ := o5'
        subst e6 e7
        refine ⟨_, ds[i], ρ', ht, P3, G5, R5, (out_eq hyd).mpr fun v H6 G6 e6 R6 r6 => ?_⟩
        have A6 := R2.after R6.post
        have e26 : Ext G2 G6 := R6.post.ext
        have g6 : G6 D = none := by
          cases z : G6 D with
          | none => rfl
          | some u =>
            rcases R6.post.new D (by rw [z]; simp) with h | h | ⟨_, h⟩
            · exact absurd gx h
            · exact (Fre.no (H := Hx) h hx (fun _ q => nomatch q)).elim
            · have y := R6.post.le _ _ h
              rw [R6.post.fr D _ hx na nt_lst] at y
              cases y
        have hx6 := R6.post.fr D _ hx na nt_lst
        have lenq : ad.length + (ys'.length + 1) ≤ sizeLine := by
          unfold mkL at q3
          by_cases z : (ad ++ yd :: ys').length ≤ sizeLine
          · simpa using z
          · rw [if_neg z] at q3; exact q3.elim
        refine ⟨acc, hx6, by rw [ra.1]; omega, acc ++ [v], ad ++ [yd], P4, G6, e2.trans e26, A6.at g6 h0 na (fun u e => by rw [hx6] at e; cases e; exact ⟨nofun, nofun⟩) ow, upd_same, g6, (ra.mono e26).append (Reps.cons r6 Reps.nil), ?_⟩
        refine out_bind.mpr ((out_eq (noEx_ok hys)).mpr ?_)
        have ea : ad ++ [yd] ++ ys' = ad ++ yd :: ys' := by simp
        rw [ea]
        exact out_mono q3 (fun d p z v H' G'' e => z v H' G'' (e26.trans e)) fun _ _ z => exW_le e26 z
  · have ei : i = ds.length := by omega
    subst ei
    refine .inl ⟨(go _ _ _ P2 σ Hx G2 e2 R2.sub).1 rfl, ?_⟩
    rw [List.drop_eq_nil_of_le (Nat.le_refl _)] at q2
    obtain ⟨ys, p, hy, q3⟩ := out_noEx_bind q2
    cases hy
    rw [List.append_nil] at q3
    unfold mkL at q3
    by_cases z : ad.length ≤ sizeLine
    · rw [if_pos z] at q3
      obtain ⟨R3, e3⟩ := R2.freeze hx nt_lst h0 na ow gx
      exact q3 (.ref D) Hx _ e3 R3 (.lst upd_same ra.1 fun i v d a b => (ra.2 i v d a b).mono e3)
    · rw [if_neg z] at q3; exact q3.elim
end
section
variable {c : Cn} {F : Fr} {W : WX} {ρ : List Sl} {X : Cx}
/-- the reading of an element, whatever the target took -/
abbrev rdElt (c : Cn) (t : D → Option (List Sl)) (me : D → M D) : TE := fun σ H Q => ∃ F d ρ', t d = some ρ' ∧ rdE c F W0 ρ' (me d) σ H Q
abbrev rdTst (c : Cn) (t : D → Option (List Sl)) (mt : D → M Bool) : TT := fun σ H Q => ∃ F d ρ', t d = some ρ' ∧ rdT c F W0 ρ' (mt d) σ H Q
theorem pe_elt {X : Cx} {e : Expr} {t : D → Option (List Sl)} {me : D → M D} (h : ∀ F d ρ', t d = some ρ' → PE X e (rdE c F W0 ρ' (me d))) : PE X e (rdElt c t me) := ⟨fun pins s σ H Q I ⟨F, d, ρ', e, q⟩ => (h F d ρ' e).run pins s σ H Q I q⟩
theorem pt_tst {X : Cx} {e : Expr} {t : D → Option (List Sl)} {mt : D → M Bool} (h : ∀ F d ρ', t d = some ρ' → PT X e (rdT c F W0 ρ' (mt d))) : PT X e (rdTst c t mt) := ⟨fun pins s σ H Q I ⟨F, d, ρ', e, q⟩ => (h F d ρ' e).run pins s σ H Q I q⟩
/-- [e for tg in it] -/
theorem de_lc {elt tg iter : Expr} {ifs : List Expr} {scope : Scope} {own : List (Str × Nat)} {pos : Pos} {g : TG} {tt : TT} {mi : M (List D)} {t : List Sl → D → Option (List Sl)} {mt : D → M Bool} {me : D → M D} (hc : X.calm = true) (hN : X.N.Nodup) (ok : BlkOk X.N X.env.scope scope own)
    (hi : PI X tg iter (rdI c F W ρ mi)) (tgt : Tgt c g t (own.map (·.2))) (hno : ∀ ρ d, t ρ d = none → mt d = M.no) (htt : TestOk c tt (t (wipeS (ρ.map unO) (own.map (·.2)))) mt)
    (hg : ∀ (s : Shared) (H : Hp) (C : Addr) (cl : List (Str × Addr)) (fp : List Addr), PG (X.blk s H scope (compEnvC scope cl C X.env) fp) tg g) (ht : ∀ (s : Shared) (H : Hp) (C : Addr) (cl : List (Str × Addr)) (fp : List Addr), PTs (X.blk s H scope (compEnvC scope cl C X.env) fp) ifs tt)
    (he : ∀ (s : Shared) (H : Hp) (C : Addr) (cl : List (Str × Addr)) (fp : List Addr), PE (X.blk s H scope (compEnvC scope cl C X.env) fp) elt (rdElt c (t (wipeS (ρ.map unO) (own.map (·.2)))) me)) (hs : ∀ x, foldedSetIterable iter X.env x = pure x := by intro _; rfl) :
    PE X (.ListComp elt [⟨tg, iter, ifs, 0⟩] scope pos) (rdE c F W ρ (mi >>= fun ds => noEx (compF mt me ds) >>= mkL)) :=
  pe_by (pe_lc hc hN hi ok hg ht he hs) fun σ H Q q => lc_rd (fun _ _ _ z => z) tgt hno htt q
end
end DL
namespace DL
open PySem PySem.Spec PyProof.Rows L2
mutual
def toPy : D → Option PyData
  | .non => some .none
  | .bl b => some (.bool b)
  | .int i => some (.int i)
  | .str x => some (.str x)
  | .lst xs => (toPys xs).map .list
  | .tup xs => (toPys xs).map .tuple
  | _ => none
def toPys : List D → Option (List PyData)
  | [] => some []
  | x :: xs => match toPy x, toPys xs with
    | some d, some ds => some (d :: ds)
    | _, _ => none
end
section
variable {c : Cn} {G H : Hp}
mutual
theorem dp_of (e : Ext G H) : ∀ (d : D) (v : V) (p : PyData), c.rep G v d → toPy d = some p → Dp c.K H v p
  | .non, v, p, r, h => by cases r; simp [toPy] at h; subst h; exact .non
  | .bl b, v, p, r, h => by cases r; simp [toPy] at h; subst h; exact .bl b
  | .int b, v, p, r, h => by cases r; simp [toPy] at h; subst h; exact .int b
  | .str b, v, p, r, h => by cases r; simp [toPy] at h; subst h; exact .str b
  | .lst ds, v, p, r, h => by
    simp only [toPy, Option.map_eq_some_iff] at h
    obtain ⟨ps, h, rfl⟩ := h
    cases r with
    | lst ha hl hr => exact .lst (SqL.of (e _ _ ha)) (dps_of e ds _ ps ⟨hl, hr⟩ h)
  | .tup ds, v, p, r, h => by
    simp only [toPy, Option.map_eq_some_iff] at h
    obtain ⟨ps, h, rfl⟩ := h
    cases r with
    | tup ha hl hr => exact .tup (Evl.ex_t e ha) (dps_of e ds _ ps ⟨hl, hr⟩ h)
  | .scr _, v, p, r, h => by simp [toPy] at h
  | .dic _, v, p, r, h => by simp [toPy] at h
  | .ins _ _, v, p, r, h => by simp [toPy] at h
  | .cls _, v, p, r, h => by simp [toPy] at h
theorem dps_of (e : Ext G H) : ∀ (ds : List D) (vs : List V) (ps : List PyData), c.reps G vs ds → toPys ds = some ps → DpAll c.K H vs ps
  | [], vs, ps, r, h => by
    simp [toPys] at h
    subst h
    rw [r.nil_of']
    exact .nil
  | d :: ds, [], ps, r, h => by have := r.1; simp at this
  | d :: ds, v :: vs, ps, r, h => by
    unfold toPys at h
    cases h1 : toPy d with
    | none => rw [h1] at h; cases h
    | some q =>
      cases h2 : toPys ds with
      | none => rw [h1, h2] at h; cases h
      | some qs =>
        rw [h1, h2] at h
        cases h
        exact .cons (dp_of e d v q r.head h1) (dps_of e ds vs qs r.tail h2)
end
end
section
variable {c : Cn} {X : Cx}
def addD : D → D → M D
  | .int i, .int j => Pure.pure (.int (i + j))
  | .str a, .str b => if a.length + b.length ≤ sizeLine then Pure.pure (.str (a ++ b)) else M.no
  | .lst a, .lst b => if a.length + b.length ≤ sizeLine then Pure.pure (.lst (a ++ b)) else M.no
  | .tup a, .tup b => if a.length + b.length ≤ sizeLine then Pure.pure (.tup (a ++ b)) else M.no
  | _, _ => M.no
def rAddD (K : PySem.W.Frag) : R2 := fun x y H Q => (rI0 (fun i j => .int (i + j)) x y H Q ∨ (∃ i j, x = .str i ∧ y = .str j ∧ i.length + j.length ≤ sizeLine ∧ Q (.str (i ++ j)) H)) ∨ (rCat x y H Q ∨ rCatA K x y H Q)
theorem opr_add : OpR X (binaryOp .Add) (rAddD X.K) := (op_add.or op_add_str).or (op_cat.or op_catA)
theorem opd_add : OpD c (rAddD c.K) addD := by
  intro F ρ W P σ H G x y dx dy Q R rx ry q
  cases dx <;> cases dy <;> try exact q.elim
  · rw [rx.int_of, ry.int_of]
    exact .inl (.inl ⟨_, _, rfl, rfl, q _ H G (Ext.refl _) R (.int _)⟩)
  · rename_i a b
    unfold addD at q
    by_cases z : a.length + b.length ≤ sizeLine
    · simp only [if_pos z] at q
      rw [rx.str_of, ry.str_of]
      exact .inl (.inr ⟨_, _, rfl, rfl, z, q _ H G (Ext.refl _) R (.str _)⟩)
    · simp only [if_neg z] at q; exact q.elim
  · rename_i a b
    unfold addD at q
    by_cases z : a.length + b.length ≤ sizeLine
    · simp only [if_pos z] at q
      cases rx with
      | lst ha hl hr =>
        cases ry with
        | lst hb hl2 hr2 =>
          refine .inr (.inl ⟨_, _, _, _, rfl, rfl, R.post.le _ _ ha, R.post.le _ _ hb, by rw [hl, hl2]; exact z, fun p hp => ?_⟩)
          obtain ⟨R2, e2⟩ := R.new hp nt_lst
          have rr : c.reps G _ (a ++ b) := Reps.append ⟨hl, hr⟩ ⟨hl2, hr2⟩
          exact q _ _ _ e2 R2 (.lst upd_same rr.1 fun i v d a b => (rr.2 i v d a b).mono e2)
    · simp only [if_neg z] at q; exact q.elim
  · rename_i a b
    unfold addD at q
    by_cases z : a.length + b.length ≤ sizeLine
    · simp only [if_pos z] at q
      cases rx with
      | tup ha hl hr =>
        rename_i aa va
        cases ry with
        | tup hb hl2 hr2 =>
          rename_i ab vb
          refine .inr (.inr ⟨_, _, _, _, rfl, rfl, Evl.ex_t R.post.le ha, Evl.ex_t R.post.le hb, by rw [hl, hl2]; exact z, fun e => ?_, fun _ e => ?_, fun _ _ p hp => ?_⟩)
          · subst e
            have : a = [] := by cases a with
              | nil => rfl
              | cons _ _ => simp at hl
            subst this
            exact q _ H G (Ext.refl _) R (.tup hb hl2 hr2)
          · subst e
            have : b = [] := by cases b with
              | nil => rfl
              | cons _ _ => simp at hl2
            subst this
            exact q _ H G (Ext.refl _) R (by rw [List.append_nil]; exact .tup ha hl hr)
          · obtain ⟨R2, e2⟩ := R.new hp nt_tup
            have rr : c.reps G _ (a ++ b) := Reps.append ⟨hl, hr⟩ ⟨hl2, hr2⟩
            exact q _ _ _ e2 R2 (.tup (SqT.of upd_same) rr.1 fun i v d a b => (rr.2 i v d a b).mono e2)
    · simp only [if_neg z] at q; exact q.elim
/-- ints alone -/
def intD (C : Int → Int → Prop) [∀ i j, Decidable (C i j)] (g : Int → Int → D) : D → D → M D
  | .int i, .int j => if C i j then Pure.pure (g i j) else M.no
  | _, _ => M.no
theorem opd_int {C : Int → Int → Prop} [∀ i j, Decidable (C i j)] {g : Int → Int → D} {gv : Int → Int → V} (hg : ∀ G i j, c.rep G (gv i j) (g i j)) : OpD c (rI C gv) (intD C g) := by
  intro F ρ W P σ H G x y dx dy Q R rx ry q
  cases dx <;> cases dy <;> try exact q.elim
  rename_i i j
  unfold intD at q
  by_cases z : C i j
  · simp only [if_pos z] at q
    rw [rx.int_of, ry.int_of]
    exact ⟨i, j, rfl, rfl, z, q _ H G (Ext.refl _) R (hg G i j)⟩
  · simp only [if_neg z] at q; exact q.elim
def intD0 (g : Int → Int → D) : D → D → M D
  | .int i, .int j => Pure.pure (g i j)
  | _, _ => M.no
theorem opd_int0 {g : Int → Int → D} {gv : Int → Int → V} (hg : ∀ G i j, c.rep G (gv i j) (g i j)) : OpD c (rI0 gv) (intD0 g) := by
  intro F ρ W P σ H G x y dx dy Q R rx ry q
  cases dx <;> cases dy <;> try exact q.elim
  rename_i i j
  rw [rx.int_of, ry.int_of]
  exact ⟨i, j, rfl, rfl, q _ H G (Ext.refl _) R (hg G i j)⟩
def subD : D → D → M D := intD0 fun i j => .int (i - j)
theorem opd_sub : OpD c (rI0 fun i j => .int (i - j)) subD := opd_int0 fun _ _ _ => .int _
instance {i j : Int} : Decidable (CMulX i j) := by unfold CMulX; infer_instance
instance {i j : Int} : Decidable (CDivW i j) := by unfold CDivW; infer_instance
def mulD : D → D → M D
  | .int i, .int j => if CMulX i j then Pure.pure (.int (i * j)) else M.no
  | .lst xs, .int k => if -(2 ^ 63) ≤ k ∧ k < 2 ^ 63 ∧ xs.length * k.toNat ≤ sizeLine then Pure.pure (.lst (List.replicate k.toNat xs).flatten) else M.no
  | _, _ => M.no
theorem Reps.rep {G : Hp} {vs : List V} {ds : List D} (h : c.reps G vs ds) : ∀ k : Nat, c.reps G (List.replicate k vs).flatten (List.replicate k ds).flatten
  | 0 => Reps.nil
  | k + 1 => by
    rw [List.replicate_succ, List.replicate_succ, List.flatten_cons, List.flatten_cons]
    exact h.append (Reps.rep h k)
theorem opr_mul : OpR X (binaryOp .Mult) (fun x y H Q => rI CMulX (fun i j => .int (i * j)) x y H Q ∨ rRep x y H Q) := op_mulX.or op_rep
theorem opd_mul : OpD c (fun x y H Q => rI CMulX (fun i j => .int (i * j)) x y H Q ∨ rRep x y H Q) mulD := by
  intro F ρ W P σ H G x y dx dy Q R rx ry q
  cases dx <;> cases dy <;> try exact q.elim
  · rename_i i j
    unfold mulD at q
    by_cases z : CMulX i j
    · simp only [if_pos z] at q
      rw [rx.int_of, ry.int_of]
      exact .inl ⟨i, j, rfl, rfl, z, q _ H G (Ext.refl _) R (.int _)⟩
    · simp only [if_neg z] at q; exact q.elim
  · rename_i xs k
    unfold mulD at q
    by_cases z : -(2 ^ 63) ≤ k ∧ k < 2 ^ 63 ∧ xs.length * k.toNat ≤ sizeLine
    · simp only [if_pos z] at q
      rw [ry.int_of]
      cases rx with
      | lst ha hl hr =>
        refine .inr ⟨_, k, _, rfl, rfl, R.post.le _ _ ha, z.1, z.2.1, by rw [hl]; exact z.2.2, fun p hp => ?_⟩
        obtain ⟨R2, e2⟩ := R.new hp nt_lst
        have rr : c.reps G _ (List.replicate k.toNat xs).flatten := Reps.rep ⟨hl, hr⟩ k.toNat
        exact q _ _ _ e2 R2 (.lst upd_same rr.1 fun i v d a b => (rr.2 i v d a b).mono e2)
    · simp only [if_neg z] at q; exact q.elim
def modD : D → D → M D := intD (fun _ j => 0 < j) fun i j => .int (i % j)
theorem opd_mod : OpD c (rI (fun _ j => 0 < j) fun i j => .int (i % j)) modD := opd_int fun _ _ _ => .int _
def fdivD : D → D → M D := intD CDivW fun i j => .int (i / j)
theorem opd_fdiv : OpD c (rI CDivW fun i j => .int (i / j)) fdivD := opd_int fun _ _ _ => .int _
/-- ** : the base's bits times the exponent within the line -/
def CPowX (i j : Int) : Prop := 0 ≤ j ∧ (Builtin.Int.intBits i : Int) * j ≤ 2 ^ 27
instance {i j : Int} : Decidable (CPowX i j) := by unfold CPowX; infer_instance
theorem op_powX : OpR X (binaryOp .Pow) (rI CPowX fun i j => .int (i ^ j.toNat)) := opI fun _ _ _ _ _ _ _ hc q => pow_int hc.1 hc.2 q
def powD : D → D → M D := intD CPowX fun i j => .int (i ^ j.toNat)
theorem opd_pow : OpD c (rI CPowX fun i j => .int (i ^ j.toNat)) powD := opd_int fun _ _ _ => .int _
instance {i j : Int} : Decidable (CShl i j) := by unfold CShl; infer_instance
def negD : D → M D
  | .int i => Pure.pure (.int (-i))
  | _ => M.no
theorem und_neg : ∀ F ρ W P σ H G x dx Q, Rel c F ρ P σ H G → c.rep G x dx → out (negD dx) P (fun d P' => ∀ v H' G', Ext G G' → Rel c F ρ P' σ H' G' → c.rep G' v d → Q v H') (exW c F W P G σ) → rU (fun i => .int (-i)) x H Q := by
  intro F ρ W P σ H G x dx Q R rx q
  cases dx <;> try exact q.elim
  rw [rx.int_of]
  exact ⟨_, rfl, q _ H G (Ext.refl _) R (.int _)⟩
def ordD (p : Int → Int → Bool) (s : Str → Str → Bool) : D → D → M D
  | .int i, .int j => Pure.pure (.bl (p i j))
  | .str i, .str j => Pure.pure (.bl (s i j))
  | _, _ => M.no
def rOrd (p : Int → Int → Bool) (s : Str → Str → Bool) : R2 := fun x y H Q => rI0 (fun i j => .bl (p i j)) x y H Q ∨ ∃ i j, x = .str i ∧ y = .str j ∧ Q (.bl (s i j)) H
theorem opd_ord {p : Int → Int → Bool} {s : Str → Str → Bool} : OpD c (rOrd p s) (ordD p s) := by
  intro F ρ W P σ H G x y dx dy Q R rx ry q
  cases dx <;> cases dy <;> try exact q.elim
  · rw [rx.int_of, ry.int_of]
    exact .inl ⟨_, _, rfl, rfl, q _ H G (Ext.refl _) R (.bl _)⟩
  · rw [rx.str_of, ry.str_of]
    exact .inr ⟨_, _, rfl, rfl, q _ H G (Ext.refl _) R (.bl _)⟩
def ltS (i j : Str) : Bool := decide (i.cps.toList < j.cps.toList)
def ltD := ordD (fun i j => decide (i < j)) ltS
def leD := ordD (fun i j => decide (i ≤ j)) (fun i j => !ltS j i)
def gtD := ordD (fun i j => decide (j < i)) (fun i j => ltS j i)
theorem opr_lt : OpR X (compareOp .Lt) (rOrd (fun i j => decide (i < j)) ltS) := op_lt.or op_lt_str
theorem opr_le : OpR X (compareOp .LtE) (rOrd (fun i j => decide (i ≤ j)) (fun i j => !ltS j i)) := op_le.or op_le_str
theorem opr_gt : OpR X (compareOp .Gt) (rOrd (fun i j => decide (j < i)) (fun i j => ltS j i)) := op_gt.or op_gt_str
def eqD : D → D → M D := fun x y => match toPy x, toPy y with
  | some d, some e => if SeqAt.shaped d = true ∧ SeqAt.shaped e = true then Pure.pure (.bl (PyData.eqv d e)) else M.no
  | _, _ => M.no
def neD : D → D → M D := fun x y => match toPy x, toPy y with
  | some d, some e => if SeqAt.shaped d = true ∧ SeqAt.shaped e = true then Pure.pure (.bl (!PyData.eqv d e)) else M.no
  | _, _ => M.no
theorem opd_eq : OpD c (rEqD c.K) eqD := by
  intro F ρ W P σ H G x y dx dy Q R rx ry q
  unfold eqD at q
  cases h1 : toPy dx with
  | none => rw [h1] at q; exact q.elim
  | some d =>
    cases h2 : toPy dy with
    | none => rw [h1, h2] at q; exact q.elim
    | some e =>
      rw [h1, h2] at q
      by_cases z : SeqAt.shaped d = true ∧ SeqAt.shaped e = true
      · simp only [if_pos z] at q
        exact ⟨d, e, dp_of R.post.le _ _ _ rx h1, dp_of R.post.le _ _ _ ry h2, z.1, z.2, q _ H G (Ext.refl _) R (.bl _)⟩
      · simp only [if_neg z] at q; exact q.elim
theorem opd_ne : OpD c (rNeD c.K) neD := by
  intro F ρ W P σ H G x y dx dy Q R rx ry q
  unfold neD at q
  cases h1 : toPy dx with
  | none => rw [h1] at q; exact q.elim
  | some d =>
    cases h2 : toPy dy with
    | none => rw [h1, h2] at q; exact q.elim
    | some e =>
      rw [h1, h2] at q
      by_cases z : SeqAt.shaped d = true ∧ SeqAt.shaped e = true
      · simp only [if_pos z] at q
        exact ⟨d, e, dp_of R.post.le _ _ _ rx h1, dp_of R.post.le _ _ _ ry h2, z.1, z.2, q _ H G (Ext.refl _) R (.bl _)⟩
      · simp only [if_neg z] at q; exact q.elim
end
section
variable {c : Cn} {X : Cx} {F : Fr} {W : WX} {ρ : List Sl}
/-- a < b < c -/
def chainM (ma mb mc : M D) (f g : D → D → M D) : M D := ma >>= fun x => mb >>= fun y => f x y >>= fun z => boolD z >>= fun k => if k = true then mc >>= fun w => g y w else Pure.pure (.bl false)
theorem chain_rd {r r' : R2} {f g : D → D → M D} {ma mb mc : M D} (hf : OpD c r f) (hg : OpD c r' g) {σ : L2.St} {H : Hp} {Q : VK} (h : rdE c F W ρ (chainM ma mb mc f g) σ H Q) : tChain r r' (rdE c F W ρ ma) (rdE c F W ρ mb) (rdE c F W ρ mc) σ H Q := by
  obtain ⟨P, G, R, q⟩ := h
  refine ⟨P, G, R, out_mono (out_bind.mp q) (fun x P1 q1 v H1 G1 e1 R1 r1 => ?_) fun _ _ z => z⟩
  refine ⟨P1, G1, R1, out_mono (out_bind.mp q1) (fun y P2 q2 u H2 G2 e2 R2 r2 => ?_) fun _ _ z => exW_le e1 z⟩
  refine hf F ρ W P2 σ H2 G2 v u x y _ R2 (r1.mono e2) r2 (out_mono (out_bind.mp q2) (fun d P3 q3 v3 H3 G3 e3 R3 r3 => ?_) fun _ _ z => exW_le (e1.trans e2) z)
  have e13 := (e1.trans e2).trans e3
  cases d with
  | bl k =>
    refine ⟨k, r3.bl_of, ?_⟩
    cases k with
    | false => exact q3 _ H3 G3 e13 R3 (.bl false)
    | true =>
      refine ⟨P3, G3, R3, out_mono (out_bind.mp (show out (mc >>= fun w => g y w) P3 _ _ from q3)) (fun w P4 q4 v4 H4 G4 e4 R4 r4 => ?_) fun _ _ z => exW_le e13 z⟩
      exact hg F ρ W P4 σ H4 G4 u v4 y w Q R4 (r2.mono (e3.trans e4)) r4 (out_mono q4 (fun d P5 q5 v5 H5 G5 e5 R5 r5 => q5 v5 H5 G5 ((e13.trans e4).trans e5) R5 r5) fun _ _ z => exW_le (e13.trans e4) z)
  | _ => exact q3.elim
theorem de_chain {a b d : Expr} {op op' : CmpOp} {pos : Pos} {r r' : R2} {f g : D → D → M D} {ma mb mc : M D} (ho : OpR X (compareOp op) r) (ho' : OpR X (compareOp op') r') (hf : OpD c r f) (hg : OpD c r' g)
    (ha : PE X a (rdE c F W ρ ma)) (hb : PE X b (rdE c F W ρ mb)) (hc : PE X d (rdE c F W ρ mc)) (hm : lastMarks [op, op'] [b, d] = false := by with_unfolding_all rfl) :
    PE X (.Compare a [op, op'] [b, d] pos) (rdE c F W ρ (chainM ma mb mc f g)) := pe_by (pe_chain ho ho' ha hb hc hm) fun _ _ _ => chain_rd hf hg
def inS (x y : Str) : Bool := match x.cps.toList with
  | [a] => decide (a ∈ y.cps.toList)
  | _ => !(Builtin.Str.occurrences y x 0 y.length 1).isEmpty
def inSeq (neg : Bool) (mk : List PyData → PyData) (x : D) (ys : List D) : M D := match toPy x, toPys ys with
  | some d, some ds => if SeqAt.shaped d = true ∧ SeqAt.shaped (mk ds) = true then Pure.pure (.bl (if neg then !(ds.any fun z => PyData.eqv z d) else ds.any fun z => PyData.eqv z d)) else M.no
  | _, _ => M.no
def inTxt (neg : Bool) (y : Str) : D → M D
  | .str x => Pure.pure (.bl (if neg then !inS x y else inS x y))
  | _ => M.no
def inD (neg : Bool) (x y : D) : M D := match y with
  | .str y => inTxt neg y x
  | .lst ys => inSeq neg .list x ys
  | .tup ys => inSeq neg .tuple x ys
  | _ => M.no
def rInX (K : PySem.W.Frag) (neg : Bool) : R2 := fun x y H Q =>
  (∃ (a : Nat) (z : Str), x = .str ⟨#[a]⟩ ∧ y = .str z ∧ Q (.bl (if neg then !decide (a ∈ z.cps.toList) else decide (a ∈ z.cps.toList))) H) ∨
  (∃ i j, x = .str i ∧ y = .str j ∧ Q (.bl (if neg then !(!(Builtin.Str.occurrences j i 0 j.length 1).isEmpty) else !(Builtin.Str.occurrences j i 0 j.length 1).isEmpty)) H) ∨
  (∃ d ds, Dp K H x d ∧ Dp K H y (.list ds) ∧ SeqAt.shaped d = true ∧ SeqAt.shaped (.list ds) = true ∧ Q (.bl (if neg then !(ds.any fun z => PyData.eqv z d) else ds.any fun z => PyData.eqv z d)) H) ∨
  (∃ d ds, Dp K H x d ∧ Dp K H y (.tuple ds) ∧ SeqAt.shaped d = true ∧ SeqAt.shaped (.tuple ds) = true ∧ Q (.bl (if neg then !(ds.any fun z => PyData.eqv z d) else ds.any fun z => PyData.eqv z d)) H)
end
section
variable {c : Cn} {X : Cx} {F : Fr} {W : WX} {ρ : List Sl}
theorem shaped_room {n : Nat} {d : PyData} {ds : List PyData} (h : SeqAt.shaped d = true) (hu : n + 65 < cLine) : n + 1 + min (PyData.depthAll ds) d.depth < cLine := by
  have h2 : (d.canLay0 && decide (d.depth ≤ 64)) = true := h
  rw [Bool.and_eq_true] at h2
  have h3 := of_decide_eq_true h2.2
  omega
theorem opr_in (hu : X.A.units + 65 < cLine) : OpR X (compareOp .In) (rInX X.K false) := by
  intro pins s σ H x y v u Q I rx ry h
  rcases h with h | h | h | h
  · exact op_in_sign pins s σ H x y v u Q I rx ry h
  · exact op_in_str pins s σ H x y v u Q I rx ry h
  · exact op_inD hu pins s σ H x y v u Q I rx ry h
  · obtain ⟨d, ds, hd, he, sd, se, q⟩ := h
    obtain ⟨as, r1⟩ := Dp.reads I d x v hd rx
    obtain ⟨bs, r2⟩ := Dp.reads I (.tuple ds) y u he ry
    have lay : PyData.canLayAll0 ds = true := by
      have z := SeqAt.canLay_of_shaped se
      simpa only [PyData.canLay0] using z
    exact SeqAt.in_tuple_reads r2 r1 lay (SeqAt.canLay_of_shaped sd) (shaped_room sd hu) ⟨.bl _, H, I, rfl, q⟩
theorem opr_notin (hu : X.A.units + 65 < cLine) : OpR X (compareOp .NotIn) (rInX X.K true) := by
  intro pins s σ H x y v u Q I rx ry h
  rcases h with h | h | h | h
  · exact op_notIn_sign pins s σ H x y v u Q I rx ry h
  · exact op_notin_str pins s σ H x y v u Q I rx ry h
  · exact op_notInD hu pins s σ H x y v u Q I rx ry h
  · obtain ⟨d, ds, hd, he, sd, se, q⟩ := h
    obtain ⟨as, r1⟩ := Dp.reads I d x v hd rx
    obtain ⟨bs, r2⟩ := Dp.reads I (.tuple ds) y u he ry
    have lay : PyData.canLayAll0 ds = true := by
      have z := SeqAt.canLay_of_shaped se
      simpa only [PyData.canLay0] using z
    exact SeqAt.notIn_tuple_reads r2 r1 lay (SeqAt.canLay_of_shaped sd) (shaped_room sd hu) ⟨.bl _, H, I, rfl, q⟩
theorem str_one {x : Str} {a : Nat} (h : x.cps.toList = [a]) : x = ⟨#[a]⟩ := by
  obtain ⟨⟨l⟩⟩ := x
  exact congrArg (fun l => (⟨⟨l⟩⟩ : Str)) h
theorem inSeq_rd {neg : Bool} {mk : List PyData → PyData} {x : D} {ys : List D} {P : Pot} {ok : D → Pot → Prop} {ex : Ex → Pot → Prop} (h : out (inSeq neg mk x ys) P ok ex) :
    ∃ d ds, toPy x = some d ∧ toPys ys = some ds ∧ SeqAt.shaped d = true ∧ SeqAt.shaped (mk ds) = true ∧ ok (.bl (if neg then !(ds.any fun z => PyData.eqv z d) else ds.any fun z => PyData.eqv z d)) P := by
  unfold inSeq at h
  cases h1 : toPy x with
  | none => rw [h1] at h; exact h.elim
  | some d =>
    cases h2 : toPys ys with
    | none => rw [h1, h2] at h; exact h.elim
    | some ds =>
      rw [h1, h2] at h
      by_cases z : SeqAt.shaped d = true ∧ SeqAt.shaped (mk ds) = true
      · simp only [if_pos z] at h
        exact ⟨d, ds, rfl, rfl, z.1, z.2, h⟩
      · simp only [if_neg z] at h; exact h.elim
theorem opd_in (neg : Bool) : OpD c (rInX c.K neg) (inD neg) := by
  intro F ρ W P σ H G x y dx dy Q R rx ry q
  cases dy with
  | str y' =>
    cases dx with
    | str x' =>
      rw [rx.str_of, ry.str_of]
      have q' := q _ H G (Ext.refl _) R (.bl _)
      unfold inS at q'
      cases h : x'.cps.toList with
      | nil => rw [h] at q'; exact .inr (.inl ⟨x', y', rfl, rfl, q'⟩)
      | cons a r =>
        cases r with
        | nil => rw [h] at q'; exact .inl ⟨a, y', congrArg V.str (str_one h), rfl, q'⟩
        | cons b r => rw [h] at q'; exact .inr (.inl ⟨x', y', rfl, rfl, q'⟩)
    | _ => exact q.elim
  | lst ys =>
    obtain ⟨d, ds, h1, h2, s1, s2, k⟩ := inSeq_rd q
    exact .inr (.inr (.inl ⟨d, ds, dp_of R.post.le _ _ _ rx h1, dp_of R.post.le _ _ _ ry (by simp only [toPy]; rw [h2]; rfl), s1, s2, k _ H G (Ext.refl _) R (.bl _)⟩))
  | tup ys =>
    obtain ⟨d, ds, h1, h2, s1, s2, k⟩ := inSeq_rd q
    exact .inr (.inr (.inr ⟨d, ds, dp_of R.post.le _ _ _ rx h1, dp_of R.post.le _ _ _ ry (by simp only [toPy]; rw [h2]; rfl), s1, s2, k _ H G (Ext.refl _) R (.bl _)⟩))
  | _ => exact q.elim
def ixD : D → D → M D
  | .lst xs, .int i => M.some (atI xs i)
  | .tup xs, .int i => M.some (atI xs i)
  | .scr ns, .int i => M.some ((atI ns i).map .int)
  | .str z, .int i => if z.length ≤ sizeLine then M.some ((atI z.cps.toList i).map fun a => .str ⟨#[a]⟩) else M.no
  | _, _ => M.no
theorem atI_rep {G : Hp} {vs : List V} {ds : List D} {i : Int} {d : D} (r : c.reps G vs ds) (h : atI ds i = some d) : ∃ v, atI vs i = some v ∧ c.rep G v d := by
  unfold atI at h ⊢
  rw [r.1]
  cases e : ixN ds.length i with
  | none => rw [e] at h; cases h
  | some j =>
    rw [e] at h
    obtain ⟨v, h1, h2⟩ := r.get (show ds[j]? = some d from h)
    exact ⟨v, h1, h2⟩
theorem atI_map {α β : Type} {f : α → β} {xs : List α} {i : Int} : atI (xs.map f) i = (atI xs i).map f := by
  unfold atI
  rw [List.length_map]
  cases ixN xs.length i with
  | none => rfl
  | some j => simp
theorem opd_ix : OpD c (rIx c.K) ixD := by
  intro F ρ W P σ H G x y dx dy Q R rx ry q
  cases dx <;> cases dy <;> try exact q.elim
  · rename_i z i
    unfold ixD at q
    by_cases hz : z.length ≤ sizeLine
    · simp only [if_pos hz] at q
      obtain ⟨d, h, q⟩ := out_some.mp q
      rw [Option.map_eq_some_iff] at h
      obtain ⟨a, h, rfl⟩ := h
      rw [rx.str_of, ry.int_of]
      exact .inr (.inr ⟨z, i, a, rfl, rfl, hz, h, q _ H G (Ext.refl _) R (.str _)⟩)
    · simp only [if_neg hz] at q; exact q.elim
  · rename_i xs i
    obtain ⟨d, h, q⟩ := out_some.mp q
    rw [ry.int_of]
    cases rx with
    | lst ha hl hr =>
      obtain ⟨v, h1, h2⟩ := atI_rep ⟨hl, hr⟩ h
      exact .inl ⟨_, _, i, v, rfl, rfl, SqL.of (R.post.le _ _ ha), h1, q v H G (Ext.refl _) R h2⟩
  · rename_i xs i
    obtain ⟨d, h, q⟩ := out_some.mp q
    rw [ry.int_of]
    cases rx with
    | tup ha hl hr =>
      obtain ⟨v, h1, h2⟩ := atI_rep ⟨hl, hr⟩ h
      exact .inr (.inl ⟨_, _, i, v, rfl, rfl, Evl.ex_t R.post.le ha, h1, q v H G (Ext.refl _) R h2⟩)
  · rename_i ns i
    obtain ⟨d, h, q⟩ := out_some.mp q
    rw [Option.map_eq_some_iff] at h
    obtain ⟨n, h, rfl⟩ := h
    rw [ry.int_of]
    cases rx with
    | scr ha =>
      exact .inl ⟨_, _, i, .int n, rfl, rfl, Evl.ex_l R.post.le ha, by rw [atI_map, h]; rfl, q _ H G (Ext.refl _) R (.int n)⟩
theorem de_ix {a b : Expr} {pos : Pos} {ma mb : M D} (hK : X.K = c.K) (ha : PE X a (rdE c F W ρ ma)) (hb : PE X b (rdE c F W ρ mb)) (hs : PlainIx b) :
    PE X (.Subscript a b pos) (rdE c F W ρ (ma >>= fun x => mb >>= fun y => ixD x y)) := by
  have h := pe_ix (X := X) ix_seq ha hb hs (pos := pos)
  refine pe_by h fun σ H Q ⟨P, G, R, q⟩ => ?_
  refine ⟨P, G, R, out_mono (out_bind.mp q) (fun x P1 q1 v H1 G1 e1 R1 r1 => ?_) fun _ _ z => z⟩
  refine ⟨P1, G1, R1, out_mono (out_bind.mp q1) (fun y P2 q2 u H2 G2 e2 R2 r2 => ?_) fun _ _ z => exW_le e1 z⟩
  rw [hK]
  exact opd_ix F ρ W P2 σ H2 G2 v u x y Q R2 (r1.mono e2) r2 (out_mono q2 (fun d P3 q3 v3 H3 G3 e3 R3 r3 => q3 v3 H3 G3 (fun a o h => e3 a o (e2 a o (e1 a o h))) R3 r3) fun _ _ z => exW_le (fun a o h => e2 a o (e1 a o h)) z)
def rdO (c : Cn) (F : Fr) (W : WX) (ρ : List Sl) (m : M (Option Int)) : TO := fun σ H Q => ∃ P G, Rel c F ρ P σ H G ∧ out m P (fun o P' => ∀ H' G', Ext G G' → Rel c F ρ P' σ H' G' → Q o H') (exW c F W P G σ)
theorem po_by {e : Option Expr} {t t' : TO} (h : PO X e t) (k : ∀ σ H Q, t' σ H Q → t σ H Q) : PO X e t' := ⟨fun pins s σ H Q I q => h.run pins s σ H Q I (k σ H Q q)⟩
theorem do_none : PO X none (rdO c F W ρ (Pure.pure none)) := po_by po_none fun σ H Q ⟨P, G, R, q⟩ => q H G (Ext.refl _) R
def partD : D → M (Option Int)
  | .int i => Pure.pure (some i)
  | _ => M.no
theorem do_some {e : Expr} {m : M D} (h : PE X e (rdE c F W ρ m)) : PO X (some e) (rdO c F W ρ (m >>= partD)) := by
  refine po_by (po_some h) fun σ H Q ⟨P, G, R, q⟩ => ?_
  refine ⟨P, G, R, out_mono (out_bind.mp q) (fun x P1 q1 v H1 G1 e1 R1 r1 => ?_) fun _ _ z => z⟩
  cases x with
  | int i => exact ⟨i, r1.int_of, q1 H1 G1 e1 R1⟩
  | _ => exact q1.elim
def cutL {α : Type} (xs : List α) (lo hi : Option Int) : List α := (xs.drop (HT.sIx xs.length 0 lo)).take (HT.sIx xs.length xs.length hi - HT.sIx xs.length 0 lo)
theorem cut_rep {G : Hp} {vs : List V} {ds : List D} {lo hi : Option Int} (r : c.reps G vs ds) : c.reps G (cutV vs lo hi) (cutL ds lo hi) := by
  unfold cutV cutL
  rw [r.1]
  exact (r.drop _).take _
end
end DL
namespace DL
open PySem PySem.Spec PyProof.Rows L2
def arS : Ar → Sl
  | .v d => .v d
  | .p => .p
def slots (as : List Ar) (n : Nat) : List Sl := as.map arS ++ List.replicate (n - as.length) .un
def doneF {α : Type} : Fl α → M D
  | .nx _ => Pure.pure .non
  | .rt d => Pure.pure d
  | _ => M.no
section
variable {c : Cn}
theorem slots_ok {G H : Hp} {ap : Option Addr} : ∀ {vs : List V} {as : List Ar}, ArsOk c ⟨G, H, ap⟩ G vs as → ∀ (i : Nat) s x, (as.map arS)[i]? = some s → (vs.map some)[i]? = some x → SlOk c ⟨G, H, ap⟩ G H s x
  | [], [], _, i, s, x, h, _ => by simp at h
  | v :: vs, a :: as, ⟨h, t⟩, 0, s, x, h1, h2 => by
    simp at h1 h2
    subst h1; subst h2
    cases a with
    | v d => exact ⟨v, rfl, h⟩
    | p =>
      obtain ⟨b, h3, h4⟩ := h
      exact ⟨b, h3, by rw [h4]⟩
  | v :: vs, a :: as, ⟨h, t⟩, i + 1, s, x, h1, h2 => slots_ok t i s x (by simpa using h1) (by simpa using h2)
  | [], _ :: _, h, _, _, _, _, _ => h.elim
  | _ :: _, [], h, _, _, _, _, _ => h.elim
theorem rel_start {G H : Hp} {ap : Option Addr} {P : Pot} {vs : List V} {as : List Ar} {N : List Str} (p : Post c ap G H P G H) (r : ArsOk c ⟨G, H, ap⟩ G vs as) : Rel c ⟨G, H, ap⟩ (slots as N.length) P (L2.start N vs) H G := by
  have hl : vs.length = as.length := ArsOk.length r
  have nop : ∀ (i : Nat) k, (slots as N.length)[i]? ≠ some (.o k) := fun i k e => by
    unfold slots at e
    by_cases hi : i < (as.map arS).length
    · rw [List.getElem?_append_left hi, List.getElem?_map] at e
      cases q : as[i]? with
      | none => rw [q] at e; cases e
      | some a => rw [q] at e; cases a <;> cases e
    · rw [List.getElem?_append_right (Nat.le_of_not_lt hi), List.getElem?_replicate] at e
      split at e <;> cases e
  refine ⟨p, by unfold slots L2.start; simp [hl], fun i s x a b => ?_, fun i j k k' u h1 _ _ _ => absurd h1 (nop i k)⟩
  unfold slots at a
  unfold L2.start at b
  by_cases hi : i < as.length
  · rw [List.getElem?_append_left (by simpa using hi)] at a
    rw [List.getElem?_append_left (by simpa [hl] using hi)] at b
    exact slots_ok r i s x a b
  · rw [List.getElem?_append_right (by simpa using Nat.le_of_not_lt hi), List.getElem?_replicate] at a
    split at a
    · cases a; exact True.intro
    · cases a
end
section
variable {P : Program} {w : World} {K : PySem.W.Frag} {mg : Str → Option Value} {base : Heap} {c : Cn}
theorem GA.deeper {A : Around} (h : GA A) (env : Env) : GA (A.deeper env) := h
/-- what a body is given -/
structure BodyX (c : Cn) (X : Cx) (k : Nat) (W : WX) : Prop where
  cx : Ctx c X k
  tk : Takes X W
  own : PassesOwn (model X.prog X.w) X.A X.env X.xe
/-- the context of a body -/
abbrev bX (P : Program) (w : World) (K : PySem.W.Frag) (mg : Str → Option Value) (base : Heap) (N : List Str) (qual : Str) (st : Stmt) (f : Addr) (cd : Value) (A : Around) (fr : List Env) (s : Shared) (H : Hp) (E : XK) : Cx :=
  cxOf (L2.CX P w) P w K mg base N qual (defScope st) f cd A fr s H E
/-- a def by a reading of its body -/
theorem fn_coreC {x qual : Str} {st : Stmt} {f : Addr} {fd : FuncData} {N ps : List Str} {k : Nat} {sp : Sp} (Fn : Fun K x qual st f fd) (hK : c.K = K) (hm : c.mg = mg) (S : FnScope N ps (defScope st)) (ln : ∀ vs H Q E, sp vs H Q E → vs.length = ps.length)
    (hbody : ∀ (cd : Value) (A : Around) (fr : List Env) (s : Shared) (H : Hp) (vs : List V) (Q : VK) (E : XK), cd = fd.code → BodyX c (bX P w K mg base N qual st f cd A fr s H E) k (fun cl dd _ H => E cl dd H) → sp vs H Q E →
      ∃ t, PSs (bX P w K mg base N qual st f cd A fr s H E) (defBody st) t ∧ t { nx := fun _ H' => Q .non H', bk := fun _ _ => False, ct := fun _ _ => False, rt := Q } (L2.start N vs) H) :
    FnG P w K mg base (k + 1) f fd ps sp := by
  refine ⟨ln, fun A fr s H us vs args Q E ga hr e0 hb r hsp => ?_⟩
  obtain ⟨oc, od, kV, doc, pm, an, cdv, ct, osl, rfl, lk, hcd⟩ := Fn.ex
  have lv := ln _ _ _ _ hsp
  have kx : K.In s.heap := e0.mod.kin.keeps fun b o q => (e0.bs b o q).1
  have nl : s.heap.NoLimit := e0.mod.nolimit.keeps fun b o q => (e0.bs b o q).1
  refine codeAny_call_function hr.depth (kx _ _ lk) rfl S.co S.gen rfl (PySem.W.codeRec_of kx hcd) (hb _ _ _ _ ?_)
  refine wpAny_newFunctionEnv_cells S.kind (fun y hy => ?_) fun env he s1 ic => ?_
  · rcases S.par y.1 (List.of_mem_zip (show (y.1, y.2) ∈ ps.zip us from hy)).1 with z | z
    · exact .inl z
    · exact .inr ⟨z, PySem.W.cellsFrom_some _ _ _ (.inl z)⟩
  subst he
  refine ⟨nl.keeps ic.toInCall.keep, codeAny_func ?_⟩
  have I := inv_start (CX := L2.CX P w) (E := E) (base := base) S hr.hd e0 lv r ic
  have bx : BodyX c (bX P w K mg base N qual st f cdv A fr s H E) k (fun cl dd _ H => E cl dd H) := ⟨⟨hm.symm, hK.symm, ga, hr.deeper _⟩, takes_of rfl rfl rfl rfl, passes_of rfl⟩
  obtain ⟨t, ht, hq⟩ := hbody cdv A fr s H vs Q E rfl bx hsp
  refine wpAny_mono (ht.run [] s1 (L2.start N vs) H _ I hq) (fun fl s' hs => ?_) fun e s' hs => hs
  have fin : ∀ {σ' : L2.St} {H' : Hp} {v : V} {u : Value}, Inv (bX P w K mg base N qual st f cdv A fr s H E) [] σ' H' s' → RelV v u → Q v H' → CE fr P w H s Q u s' :=
    fun {σ' H' v u} J rv z => ⟨v, H', J.os, J.bare, J.base, J.hok, rv, z⟩
  cases fl with
  | next =>
    obtain ⟨σ', H', J, z⟩ := hs
    exact fin (v := .non) (u := .none) J rfl z
  | ret u =>
    obtain ⟨v, σ', H', J, rv, z⟩ := hs
    exact fin J rv z
  | brk => obtain ⟨_, _, _, z⟩ := hs; exact z.elim
  | cont => obtain ⟨_, _, _, z⟩ := hs; exact z.elim
theorem fn_core {x qual : Str} {st : Stmt} {f : Addr} {fd : FuncData} {N ps : List Str} {k : Nat} {sp : Sp} (Fn : Fun K x qual st f fd) (hK : c.K = K) (hm : c.mg = mg) (S : FnScope N ps (defScope st)) (ln : ∀ vs H Q E, sp vs H Q E → vs.length = ps.length)
    (hbody : ∀ (cd : Value) (A : Around) (fr : List Env) (s : Shared) (H : Hp) (vs : List V) (Q : VK) (E : XK), BodyX c (bX P w K mg base N qual st f cd A fr s H E) k (fun cl dd _ H => E cl dd H) → sp vs H Q E →
      ∃ t, PSs (bX P w K mg base N qual st f cd A fr s H E) (defBody st) t ∧ t { nx := fun _ H' => Q .non H', bk := fun _ _ => False, ct := fun _ _ => False, rt := Q } (L2.start N vs) H) :
    FnG P w K mg base (k + 1) f fd ps sp :=
  fn_coreC Fn hK hm S ln fun cd A fr s H vs Q E _ bx hsp => hbody cd A fr s H vs Q E bx hsp
theorem fnG_of {x qual : Str} {st : Stmt} {f : Addr} {fd : FuncData} {N ps : List Str} {k : Nat} {mf : List Ar → M D} (Fn : Fun K x qual st f fd) (hK : c.K = K) (hm : c.mg = mg) (S : FnScope N ps (defScope st)) (len : ∀ as P ok ex, out (mf as) P ok ex → as.length = ps.length)
    (hbody : ∀ (cd : Value) (A : Around) (fr : List Env) (s : Shared) (H0 G0 : Hp) (ap : Option Addr) (E : XK) (as : List Ar) (P0 : Pot) (ok : D → Pot → Prop) (ex : Ex → Pot → Prop), out (mf as) P0 ok ex → BodyX c (bX P w K mg base N qual st f cd A fr s H0 E) k (fun cl dd _ H => E cl dd H) →
      ∃ (α : Type) (En : α → List Sl) (mb : M (Fl α)), PSs (bX P w K mg base N qual st f cd A fr s H0 E) (defBody st) (rdS c ⟨G0, H0, ap⟩ (fun cl dd _ H => E cl dd H) (slots as N.length) En mb) ∧ mf as = mb >>= doneF) :
    FnG P w K mg base (k + 1) f fd ps (spD c mf) := by
  refine fn_core Fn hK hm S (fun vs H Q E ⟨ap, G, P0, as, p, r, q⟩ => (ArsOk.length r).trans (len _ _ _ _ q)) fun cd A fr s H vs Q E bx ⟨ap, G, P0, as, p0, ra, q0⟩ => ?_
  obtain ⟨α, En, mb, hps, em⟩ := hbody cd A fr s H G ap E as P0 _ _ q0 bx
  rw [em] at q0
  refine ⟨_, hps, P0, G, rel_start p0 ra, out_mono (out_bind.mp q0) (fun fl P' z => ?_) fun e P' z cl dd H' G' ρ' σ' _ R' k' => z cl dd H' G' R'.post k'⟩
  cases fl with
  | nx a => exact fun σ' H' G' e R' => z .non H' G' R'.post .non
  | rt d => exact fun v H' G' ρ' σ' e R' k' => z v H' G' R'.post k'
  | bk a => exact z.elim
  | ct a => exact z.elim
/-- a def that returns a new list of its own -/
def spF (c : Cn) (mf : List Ar → M (List D)) : Sp := fun vs H Q E => ∃ (ap : Option Addr) (G : Hp) (P : Pot) (as : List Ar),
  Post c ap G H P G H ∧ ArsOk c ⟨G, H, ap⟩ G vs as ∧
  out (mf as) P (fun ds P' => ∀ p vs H' G', Post c ap G H P' G' H' → H' p = some (.lst vs) → G' p = none → Fre H p → some p ≠ ap → c.reps G' vs ds → Q (.ref p) H') (fun e P' => ∀ cl dd H' G', Post c ap G H P' G' H' → ExOk c H' G' e cl dd → E cl dd H')
/-- a block that ends by the return of a new list -/
def rdF (c : Cn) (F : Fr) (W : WX) (ρ : List Sl) (m : M (List D)) : TS := fun B σ H => ∃ P G, Rel c F ρ P σ H G ∧ out m P (fun ds P' => ∀ p vs H' G' ρ' σ', Ext G G' → Rel c F ρ' P' σ' H' G' → H' p = some (.lst vs) → G' p = none → Fre F.H0 p → some p ≠ F.ap → c.reps G' vs ds → B.rt (.ref p) H') (exS c F W P G σ)
theorem fnF_of {x qual : Str} {st : Stmt} {f : Addr} {fd : FuncData} {N ps : List Str} {k : Nat} {mf : List Ar → M (List D)} (Fn : Fun K x qual st f fd) (hK : c.K = K) (hm : c.mg = mg) (S : FnScope N ps (defScope st)) (len : ∀ as P ok ex, out (mf as) P ok ex → as.length = ps.length)
    (hbody : ∀ (cd : Value) (A : Around) (fr : List Env) (s : Shared) (H0 G0 : Hp) (ap : Option Addr) (E : XK) (as : List Ar) (P0 : Pot) (ok : List D → Pot → Prop) (ex : Ex → Pot → Prop), out (mf as) P0 ok ex → BodyX c (bX P w K mg base N qual st f cd A fr s H0 E) k (fun cl dd _ H => E cl dd H) →
      PSs (bX P w K mg base N qual st f cd A fr s H0 E) (defBody st) (rdF c ⟨G0, H0, ap⟩ (fun cl dd _ H => E cl dd H) (slots as N.length) (mf as))) :
    FnG P w K mg base (k + 1) f fd ps (spF c mf) := by
  refine fn_core Fn hK hm S (fun vs H Q E ⟨ap, G, P0, as, p, r, q⟩ => (ArsOk.length r).trans (len _ _ _ _ q)) fun cd A fr s H vs Q E bx ⟨ap, G, P0, as, p0, ra, q0⟩ => ?_
  exact ⟨_, hbody cd A fr s H G ap E as P0 _ _ q0 bx, P0, G, rel_start p0 ra, out_mono q0 (fun ds P' z p vs H' G' ρ' σ' _ R' h1 h2 h3 h4 h5 => z p vs H' G' R'.post h1 h2 h3 h4 h5) fun e P' z cl dd H' G' ρ' σ' _ R' k' => z cl dd H' G' R'.post k'⟩
end
end DL
namespace DL
open PySem PySem.Spec PyProof.Rows L2
section
variable {c : Cn} {X : Cx}
theorem Reps.one {G : Hp} {vs : List V} {d : D} (h : c.reps G vs [d]) : ∃ v, vs = [v] ∧ c.rep G v d := by
  have l := h.1
  match vs, h, l with
  | [v], h, _ => exact ⟨v, rfl, h.head⟩
theorem Reps.two {G : Hp} {vs : List V} {d e : D} (h : c.reps G vs [d, e]) : ∃ v u, vs = [v, u] ∧ c.rep G v d ∧ c.rep G u e := by
  have l := h.1
  match vs, h, l with
  | [v, u], h, _ => exact ⟨v, u, rfl, h.head, h.tail.head⟩
/-- of one argument -/
def f1 (f : D → M D) : List D → M D
  | [d] => f d
  | _ => M.no
/-- of two -/
def f2 (f : D → D → M D) : List D → M D
  | [d, e] => f d e
  | _ => M.no
def Call1 (c : Cn) (r : V → Hp → VK → Prop) (f : D → M D) : Prop := ∀ F ρ W P σ H G v d Q, Rel c F ρ P σ H G → c.rep G v d → out (f d) P (fun d P' => ∀ v H' G', Ext G G' → Rel c F ρ P' σ H' G' → c.rep G' v d → Q v H') (exW c F W P G σ) → r v H Q
theorem callD1 {r : V → Hp → VK → Prop} {f : D → M D} (h : Call1 c r f) : CallD c (fun xs H Q => ∃ v, xs = [v] ∧ r v H Q) (f1 f) := by
  intro F ρ W P σ H G vs ds Q R rs q
  match ds, q with
  | [d], q =>
    obtain ⟨v, rfl, rv⟩ := rs.one
    exact ⟨v, rfl, h F ρ W P σ H G v d Q R rv q⟩
  | [], q => exact q.elim
  | _ :: _ :: _, q => exact q.elim
theorem callD2 {r : V → V → Hp → VK → Prop} {f : D → D → M D} (h : ∀ F ρ W P σ H G x y dx dy Q, Rel c F ρ P σ H G → c.rep G x dx → c.rep G y dy → out (f dx dy) P (fun d P' => ∀ v H' G', Ext G G' → Rel c F ρ P' σ H' G' → c.rep G' v d → Q v H') (exW c F W P G σ) → r x y H Q) :
    CallD c (fun xs H Q => ∃ v u, xs = [v, u] ∧ r v u H Q) (f2 f) := by
  intro F ρ W P σ H G vs ds Q R rs q
  match ds, q with
  | [d, e], q =>
    obtain ⟨v, u, rfl, rv, ru⟩ := rs.two
    exact ⟨v, u, rfl, h F ρ W P σ H G v u d e Q R rv ru q⟩
  | [], q => exact q.elim
  | [_], q => exact q.elim
  | _ :: _ :: _ :: _, q => exact q.elim
theorem CallR.by {f : Value} {r r' : List V → Hp → VK → Prop} (h : CallR X f r) (k : ∀ xs H Q, r' xs H Q → r xs H Q) : CallR X f r' := fun pins s σ H xs us Q I v z => h pins s σ H xs us Q I v (k _ _ _ z)
def lenD : D → M D
  | .str x => if x.length ≤ sizeLine then Pure.pure (.int (x.length : Nat)) else M.no
  | .lst xs => Pure.pure (.int (xs.length : Nat))
  | .tup xs => Pure.pure (.int (xs.length : Nat))
  | .scr xs => Pure.pure (.int (xs.length : Nat))
  | .dic xs => Pure.pure (.int (xs.length : Nat))
  | _ => M.no
def rLen (K : PySem.W.Frag) : V → Hp → VK → Prop := fun v H Q => (∃ n, LenV K v H n ∧ Q (.int n) H) ∨ (∃ a kvs, v = .ref a ∧ H a = some (.dK kvs) ∧ Q (.int kvs.length) H) ∨ (∃ a kvs, v = .ref a ∧ H a = some (.dT kvs) ∧ Q (.int ((kvs.length : Nat) : Int)) H)
theorem cr_len : CallR X (.builtin "len") (fun xs H Q => ∃ v, xs = [v] ∧ rLen X.K v H Q) :=
  CallR.by (CallR.or call_len (CallR.or call_lenD call_len_dT)) fun xs H Q ⟨v, e, h⟩ => by
    subst e
    rcases h with ⟨n, h, q⟩ | ⟨a, kvs, rfl, h, q⟩ | ⟨a, kvs, rfl, h, q⟩
    · exact .inl ⟨v, n, rfl, h, q⟩
    · exact .inr (.inl ⟨a, kvs, rfl, h, q⟩)
    · exact .inr (.inr ⟨a, kvs, rfl, h, q⟩)
theorem cd_len : CallD c (fun xs H Q => ∃ v, xs = [v] ∧ rLen c.K v H Q) (f1 lenD) := callD1 fun F ρ W P σ H G v d Q R r q => by
  have go : ∀ n : Nat, out (Pure.pure (.int n) : M D) P (fun d P' => ∀ v H' G', Ext G G' → Rel c F ρ P' σ H' G' → c.rep G' v d → Q v H') (exW c F W P G σ) → Q (.int n) H := fun n q => q _ H G (Ext.refl _) R (.int _)
  cases d with
  | str x =>
    unfold lenD at q
    by_cases z : x.length ≤ sizeLine
    · simp only [if_pos z] at q
      rw [r.str_of]
      exact .inl ⟨x.length, ⟨z, rfl⟩, go _ q⟩
    · simp only [if_neg z] at q; exact q.elim
  | lst xs => cases r with | lst ha hl hr => exact .inl ⟨_, .inl ⟨_, SqL.of (R.post.le _ _ ha), rfl⟩, by rw [hl]; exact go _ q⟩
  | tup xs => cases r with | tup ha hl hr => exact .inl ⟨_, .inr ⟨_, Evl.ex_t R.post.le ha, rfl⟩, by rw [hl]; exact go _ q⟩
  | scr xs => cases r with | scr ha => exact .inl ⟨_, .inl ⟨_, Evl.ex_l R.post.le ha, rfl⟩, by rw [List.length_map]; exact go _ q⟩
  | dic xs =>
    cases r with
    | dicK h k hr => exact .inr (.inl ⟨_, _, rfl, R.post.le _ _ h, by have e := congrArg List.length k; rw [List.length_map, List.length_map] at e; rw [e]; exact go _ q⟩)
    | dicT h k hr => exact .inr (.inr ⟨_, _, rfl, R.post.le _ _ h, by have e := congrArg List.length k; rw [List.length_map, List.length_map] at e; rw [e]; exact go _ q⟩)
  | _ => exact q.elim
def strD : D → M D
  | .int i => if i.natAbs.log2 < 1920 then Pure.pure (.str (toString i)) else M.no
  | .str x => Pure.pure (.str x)
  | _ => M.no
def intOf : D → M D
  | .int i => Pure.pure (.int i)
  | .bl k => Pure.pure (.int (if k then 1 else 0))
  | _ => M.no
def rInt : V → Hp → VK → Prop := fun v H Q => (∃ i, v = .int i ∧ Q (.int i) H) ∨ ∃ k, v = .bl k ∧ Q (.int (if k then 1 else 0)) H
theorem cr_int : CallR X (.type "int") (fun xs H Q => ∃ v, xs = [v] ∧ rInt v H Q) := CallR.by call_int1 fun xs H Q ⟨v, e, h⟩ => by
  subst e
  rcases h with ⟨i, rfl, h⟩ | ⟨a, rfl, h⟩
  · exact .inl ⟨i, rfl, h⟩
  · exact .inr ⟨a, rfl, h⟩
theorem cd_int : CallD c (fun xs H Q => ∃ v, xs = [v] ∧ rInt v H Q) (f1 intOf) := callD1 fun F ρ W P σ H G v d Q R r q => by
  cases d with
  | int i => exact .inl ⟨i, r.int_of, q _ H G (Ext.refl _) R (.int _)⟩
  | bl x => exact .inr ⟨x, r.bl_of, q _ H G (Ext.refl _) R (.int _)⟩
  | _ => exact q.elim
def absD : D → M D
  | .int i => Pure.pure (.int (if i < 0 then -i else i))
  | _ => M.no
theorem cd_abs : CallD c (fun xs H Q => ∃ v, xs = [v] ∧ ∃ i, v = .int i ∧ Q (.int (if i < 0 then -i else i)) H) (f1 absD) := callD1 fun F ρ W P σ H G v d Q R r q => by
  cases d with
  | int i => exact ⟨i, r.int_of, q _ H G (Ext.refl _) R (.int _)⟩
  | _ => exact q.elim
theorem cr_abs : CallR X (.builtin "abs") (fun xs H Q => ∃ v, xs = [v] ∧ ∃ i, v = .int i ∧ Q (.int (if i < 0 then -i else i)) H) := CallR.by call_abs fun xs H Q ⟨v, e, i, e2, q⟩ => ⟨i, by rw [e, e2], q⟩
def maxD : D → D → M D
  | .int i, .int j => Pure.pure (.int (if j > i then j else i))
  | _, _ => M.no
def minD : D → D → M D
  | .int i, .int j => Pure.pure (.int (if j < i then j else i))
  | _, _ => M.no
theorem cr_max (hc : X.calm = true) : CallR X (.builtin "max") (fun xs H Q => ∃ v u, xs = [v, u] ∧ ∃ i j, v = .int i ∧ u = .int j ∧ Q (.int (if j > i then j else i)) H) := CallR.by (call_max2 hc) fun xs H Q ⟨v, u, e, i, j, e1, e2, q⟩ => ⟨i, j, by rw [e, e1, e2], q⟩
theorem cr_min (hc : X.calm = true) : CallR X (.builtin "min") (fun xs H Q => ∃ v u, xs = [v, u] ∧ ∃ i j, v = .int i ∧ u = .int j ∧ Q (.int (if j < i then j else i)) H) := CallR.by (call_min2 hc) fun xs H Q ⟨v, u, e, i, j, e1, e2, q⟩ => ⟨i, j, by rw [e, e1, e2], q⟩
theorem cd_max : CallD c (fun xs H Q => ∃ v u, xs = [v, u] ∧ ∃ i j, v = .int i ∧ u = .int j ∧ Q (.int (if j > i then j else i)) H) (f2 maxD) := callD2 fun F ρ W P σ H G x y dx dy Q R rx ry q => by
  cases dx <;> cases dy <;> try exact q.elim
  exact ⟨_, _, rx.int_of, ry.int_of, q _ H G (Ext.refl _) R (.int _)⟩
theorem cd_min : CallD c (fun xs H Q => ∃ v u, xs = [v, u] ∧ ∃ i j, v = .int i ∧ u = .int j ∧ Q (.int (if j < i then j else i)) H) (f2 minD) := callD2 fun F ρ W P σ H G x y dx dy Q R rx ry q => by
  cases dx <;> cases dy <;> try exact q.elim
  exact ⟨_, _, rx.int_of, ry.int_of, q _ H G (Ext.refl _) R (.int _)⟩
def listD : D → M D
  | .lst xs => Pure.pure (.lst xs)
  | .tup xs => Pure.pure (.lst xs)
  | .scr ns => Pure.pure (.lst (ns.map .int))
  | _ => M.no
def tupleD : D → M D
  | .lst xs => Pure.pure (.tup xs)
  | .tup xs => Pure.pure (.tup xs)
  | .scr ns => Pure.pure (.tup (ns.map .int))
  | _ => M.no
def rListOf (K : PySem.W.Frag) : V → Hp → VK → Prop := fun v H Q => ∃ p ys, v = .ref p ∧ (SqL K H p ys ∨ SqT K H p ys) ∧ ∀ l, H l = none → Q (.ref l) (upd H l (.lst ys))
def rTupleOf (K : PySem.W.Frag) : V → Hp → VK → Prop := fun v H Q => ∃ p ys, v = .ref p ∧ ((SqL K H p ys ∧ ∀ l, H l = none → Q (.ref l) (upd H l (.tup ys))) ∨ (SqT K H p ys ∧ Q (.ref p) H))
theorem cr_list : CallR X (.type "list") (fun xs H Q => ∃ v, xs = [v] ∧ rListOf X.K v H Q) := CallR.by call_list_of fun xs H Q ⟨v, e, p, ys, e2, q⟩ => ⟨p, ys, by rw [e, e2], q⟩
theorem cr_tuple : CallR X (.type "tuple") (fun xs H Q => ∃ v, xs = [v] ∧ rTupleOf X.K v H Q) := CallR.by call_tuple_of fun xs H Q ⟨v, e, p, ys, e2, q⟩ => ⟨p, ys, by rw [e, e2], q⟩
theorem new_lst {F : Fr} {ρ : List Sl} {P : Pot} {σ : L2.St} {H G : Hp} {p : Addr} {ys : List V} {ds : List D} {Q : VK} (R : Rel c F ρ P σ H G) (hp : H p = none) (r : c.reps G ys ds) (q : ∀ v H' G', Ext G G' → Rel c F ρ P σ H' G' → c.rep G' v (.lst ds) → Q v H') : Q (.ref p) (upd H p (.lst ys)) := by
  obtain ⟨R2, e2⟩ := R.new hp nt_lst
  exact q _ _ _ e2 R2 (.lst upd_same r.1 fun i v d a b => (r.2 i v d a b).mono e2)
theorem new_tup {F : Fr} {ρ : List Sl} {P : Pot} {σ : L2.St} {H G : Hp} {p : Addr} {ys : List V} {ds : List D} {Q : VK} (R : Rel c F ρ P σ H G) (hp : H p = none) (r : c.reps G ys ds) (q : ∀ v H' G', Ext G G' → Rel c F ρ P σ H' G' → c.rep G' v (.tup ds) → Q v H') : Q (.ref p) (upd H p (.tup ys)) := by
  obtain ⟨R2, e2⟩ := R.new hp nt_tup
  exact q _ _ _ e2 R2 (.tup (SqT.of upd_same) r.1 fun i v d a b => (r.2 i v d a b).mono e2)
theorem cd_list : CallD c (fun xs H Q => ∃ v, xs = [v] ∧ rListOf c.K v H Q) (f1 listD) := callD1 fun F ρ W P σ H G v d Q R r q => by
  cases d with
  | lst xs => cases r with | lst ha hl hr => exact ⟨_, _, rfl, .inl (SqL.of (R.post.le _ _ ha)), fun l h => new_lst R h ⟨hl, hr⟩ q⟩
  | tup xs => cases r with | tup ha hl hr => exact ⟨_, _, rfl, .inr (Evl.ex_t R.post.le ha), fun l h => new_lst R h ⟨hl, hr⟩ q⟩
  | scr xs => cases r with | scr ha => exact ⟨_, _, rfl, .inl (Evl.ex_l R.post.le ha), fun l h => new_lst R h (reps_ints xs) q⟩
  | _ => exact q.elim
theorem cd_tuple : CallD c (fun xs H Q => ∃ v, xs = [v] ∧ rTupleOf c.K v H Q) (f1 tupleD) := callD1 fun F ρ W P σ H G v d Q R r q => by
  cases d with
  | lst xs => cases r with | lst ha hl hr => exact ⟨_, _, rfl, .inl ⟨SqL.of (R.post.le _ _ ha), fun l h => new_tup R h ⟨hl, hr⟩ q⟩⟩
  | tup xs => cases r with | tup ha hl hr => exact ⟨_, _, rfl, .inr ⟨Evl.ex_t R.post.le ha, q _ H G (Ext.refl _) R (.tup ha hl hr)⟩⟩
  | scr xs => cases r with | scr ha => exact ⟨_, _, rfl, .inl ⟨Evl.ex_l R.post.le ha, fun l h => new_tup R h (reps_ints xs) q⟩⟩
  | _ => exact q.elim
def bls : List D → Option (List Bool)
  | [] => some []
  | .bl b :: ds => (bls ds).map (b :: ·)
  | _ => none
theorem bls_of {G : Hp} : ∀ {vs : List V} {ds : List D} {bs : List Bool}, c.reps G vs ds → bls ds = some bs → vs = bs.map V.bl
  | vs, [], bs, r, h => by cases h; rw [r.nil_of']; rfl
  | [], _ :: _, _, r, _ => by have := r.1; simp at this
  | v :: vs, d :: ds, bs, r, h => by
    cases d with
    | bl b =>
      simp only [bls, Option.map_eq_some_iff] at h
      obtain ⟨bs', h, rfl⟩ := h
      rw [r.head.bl_of, bls_of r.tail h]
      rfl
    | _ => exact nomatch h
def allD : D → M D
  | .lst xs => M.some ((bls xs).map fun bs => .bl (bs.all id))
  | _ => M.no
def anyD : D → M D
  | .lst xs => M.some ((bls xs).map fun bs => .bl (bs.any id))
  | _ => M.no
def rBls (K : PySem.W.Frag) (f : List Bool → Bool) : V → Hp → VK → Prop := fun v H Q => ∃ (a : Addr) (bs : List Bool), v = V.ref a ∧ SqL K H a (bs.map V.bl) ∧ Q (.bl (f bs)) H
theorem cr_allD (hc : X.calm = true) : CallR X (.builtin "all") (fun xs H Q => ∃ v, xs = [v] ∧ rBls X.K (fun bs => bs.all id) v H Q) := CallR.by (cr_all hc) fun xs H Q ⟨v, e, a, bs, e2, h⟩ => ⟨a, bs, by rw [e, e2], h⟩
theorem bls_rd {f : List Bool → Bool} {F : Fr} {ρ : List Sl} {W : WX} {P : Pot} {σ : L2.St} {H G : Hp} {v : V} {xs : List D} {Q : VK} (R : Rel c F ρ P σ H G) (r : c.rep G v (.lst xs))
    (q : out (M.some ((bls xs).map fun bs => D.bl (f bs))) P (fun d P' => ∀ v H' G', Ext G G' → Rel c F ρ P' σ H' G' → c.rep G' v d → Q v H') (exW c F W P G σ)) : rBls c.K f v H Q := by
  obtain ⟨d, h, q⟩ := out_some.mp q
  rw [Option.map_eq_some_iff] at h
  obtain ⟨bs, h, rfl⟩ := h
  cases r with
  | lst ha hl hr =>
    have e := bls_of ⟨hl, hr⟩ h
    subst e
    exact ⟨_, bs, rfl, SqL.of (R.post.le _ _ ha), q _ H G (Ext.refl _) R (.bl _)⟩
theorem cd_all : CallD c (fun xs H Q => ∃ v, xs = [v] ∧ rBls c.K (fun bs => bs.all id) v H Q) (f1 allD) := callD1 fun F ρ W P σ H G v d Q R r q => by
  cases d with
  | lst xs => exact bls_rd R r q
  | _ => exact q.elim
def reprD (d : D) : M D := match toPy d with
  | some (.list xs) => rp (.list xs)
  | some (.tuple xs) => rp (.tuple xs)
  | _ => M.no
where rp (p : PyData) : M D := if p.showable = true ∧ p.hasDict = false ∧ p.depth ≤ 100 ∧ p.shown.length ≤ sizeLine then Pure.pure (.str p.shown) else M.no
def rRepr (K : PySem.W.Frag) : V → Hp → VK → Prop := fun v H Q => ∃ a p, v = .ref a ∧ Dp K H v p ∧ p.showable = true ∧ p.hasDict = false ∧ p.depth ≤ 100 ∧ p.shown.length ≤ sizeLine ∧ Q (.str p.shown) H
theorem cr_repr (hg : X.A.guards = some []) (hu : X.A.units + 102 < cLine) : CallR X (.builtin "repr") (fun xs H Q => ∃ v, xs = [v] ∧ rRepr X.K v H Q) := by
  intro pins s σ H xs us Q I r h
  obtain ⟨v, rfl, a, p, rfl, hp, h1, h2, h3, h4, q⟩ := h
  obtain ⟨u, rfl, ru⟩ := vals1 r
  obtain ⟨as, rd⟩ := Dp.reads I p _ u hp ru
  cases ru
  exact PySem.repr_of_reads' rd h1 (fun z => by rw [h2] at z; cases z) hg (by omega) (fun _ _ e => e) (fun h' t tk k => ⟨.str _, H, I.kept k, ⟨t, rfl⟩, q⟩) h4
theorem rp_rd {p : PyData} {P : Pot} {ok : D → Pot → Prop} {ex : Ex → Pot → Prop} (h : out (reprD.rp p) P ok ex) : p.showable = true ∧ p.hasDict = false ∧ p.depth ≤ 100 ∧ p.shown.length ≤ sizeLine ∧ ok (.str p.shown) P := by
  unfold reprD.rp at h
  by_cases z : p.showable = true ∧ p.hasDict = false ∧ p.depth ≤ 100 ∧ p.shown.length ≤ sizeLine
  · rw [if_pos z] at h
    exact ⟨z.1, z.2.1, z.2.2.1, z.2.2.2, h⟩
  · rw [if_neg z] at h; exact h.elim
theorem cd_repr : CallD c (fun xs H Q => ∃ v, xs = [v] ∧ rRepr c.K v H Q) (f1 reprD) := callD1 fun F ρ W P σ H G v d Q R r q => by
  unfold reprD at q
  cases h : toPy d with
  | none => rw [h] at q; exact q.elim
  | some p =>
    rw [h] at q
    have dp := dp_of R.post.le d v p r h
    cases p with
    | list xs =>
      obtain ⟨h1, h2, h3, h4, q⟩ := rp_rd q
      cases d <;> simp [toPy] at h
      cases r with | lst ha hl hr => exact ⟨_, _, rfl, dp, h1, h2, h3, h4, q _ H G (Ext.refl _) R (.str _)⟩
    | tuple xs =>
      obtain ⟨h1, h2, h3, h4, q⟩ := rp_rd q
      cases d <;> simp [toPy] at h
      cases r with | tup ha hl hr => exact ⟨_, _, rfl, dp, h1, h2, h3, h4, q _ H G (Ext.refl _) R (.str _)⟩
    | _ => exact q.elim
end
end DL
namespace DL
open PySem PySem.Spec PyProof.Rows L2
section
variable {c : Cn} {X : Cx} {F : Fr} {W : WX} {ρ : List Sl}
def sliceD : D → Option Int → Option Int → M D
  | .lst xs, lo, hi => Pure.pure (.lst (cutL xs lo hi))
  | .tup xs, lo, hi => Pure.pure (.tup (cutL xs lo hi))
  | .scr ns, lo, hi => Pure.pure (.lst ((cutL ns lo hi).map .int))
  | .str z, lo, hi => if z.length ≤ sizeLine then Pure.pure (.str (cutS z lo hi)) else M.no
  | _, _, _ => M.no
def rSlD (K : PySem.W.Frag) : V → Option Int → Option Int → Hp → VK → Prop := fun x lo hi H Q => rSlL K x lo hi H Q ∨ (rSlA K x lo hi H Q ∨ rSlS x lo hi H Q)
theorem sl_D : SlR X (rSlD X.K) := SlR.or sl_list (SlR.or sl_tupA sl_str)
theorem cut_all {α : Type} {xs : List α} {lo hi : Option Int} (h : HT.sIx xs.length 0 lo = 0 ∧ HT.sIx xs.length xs.length hi = xs.length) : cutL xs lo hi = xs := by
  unfold cutL
  rw [h.1, h.2]
  simp
theorem cut_map {α β : Type} {f : α → β} {xs : List α} {lo hi : Option Int} : cutL (xs.map f) lo hi = (cutL xs lo hi).map f := by
  unfold cutL
  rw [List.length_map, List.map_take, List.map_drop]
theorem slice_rd {P : Pot} {σ : L2.St} {H G : Hp} {x : V} {d : D} {lo hi : Option Int} {Q : VK} (R : Rel c F ρ P σ H G) (r : c.rep G x d)
    (q : out (sliceD d lo hi) P (fun d P' => ∀ v H' G', Ext G G' → Rel c F ρ P' σ H' G' → c.rep G' v d → Q v H') (exW c F W P G σ)) : rSlD c.K x lo hi H Q := by
  cases d with
  | lst xs => cases r with | lst ha hl hr => exact .inl ⟨_, _, rfl, SqL.of (R.post.le _ _ ha), fun p hp => new_lst R hp (cut_rep ⟨hl, hr⟩) q⟩
  | tup xs =>
    cases r with
    | tup ha hl hr =>
      refine .inr (.inl ⟨_, _, rfl, Evl.ex_t R.post.le ha, fun w => ?_, fun w p hp => new_tup R hp (cut_rep ⟨hl, hr⟩) q⟩)
      rw [hl] at w
      have q' : ∀ v H' G', Ext G G' → Rel c F ρ P σ H' G' → c.rep G' v (.tup (cutL xs lo hi)) → Q v H' := q
      rw [cut_all w] at q'
      exact q' _ H G (Ext.refl _) R (.tup ha hl hr)
  | scr ns =>
    cases r with
    | scr ha =>
      refine .inl ⟨_, _, rfl, Evl.ex_l R.post.le ha, fun p hp => new_lst R hp ?_ q⟩
      show c.reps G (cutL (ns.map V.int) lo hi) _
      rw [cut_map]
      exact reps_ints _
  | str z =>
    unfold sliceD at q
    by_cases hz : z.length ≤ sizeLine
    · simp only [if_pos hz] at q
      exact .inr (.inr ⟨z, r.str_of, hz, q _ H G (Ext.refl _) R (.str _)⟩)
    · simp only [if_neg hz] at q; exact q.elim
  | _ => exact q.elim
theorem de_slice {e : Expr} {lo hi : Option Expr} {p2 pos : Pos} {me : M D} {ml mh : M (Option Int)} (hK : X.K = c.K) (he : PE X e (rdE c F W ρ me)) (hl : PO X lo (rdO c F W ρ ml)) (hh : PO X hi (rdO c F W ρ mh)) :
    PE X (.Subscript e (.Slice lo hi none p2) pos) (rdE c F W ρ (me >>= fun x => ml >>= fun l => mh >>= fun u => sliceD x l u)) := by
  refine pe_by (pe_slice (sl_D (X := X)) he hl hh) fun σ H Q ⟨P, G, R, q⟩ => ?_
  refine ⟨P, G, R, out_mono (out_bind.mp q) (fun x P1 q1 v H1 G1 e1 R1 r1 => ?_) fun _ _ z => z⟩
  refine ⟨P1, G1, R1, out_mono (out_bind.mp q1) (fun l P2 q2 H2 G2 e2 R2 => ?_) fun _ _ z => exW_le e1 z⟩
  refine ⟨P2, G2, R2, out_mono (out_bind.mp q2) (fun u P3 q3 H3 G3 e3 R3 => ?_) fun _ _ z => exW_le (e1.trans e2) z⟩
  rw [hK]
  have e13 := (e1.trans e2).trans e3
  exact slice_rd (W := W) R3 (r1.mono (e2.trans e3)) (out_mono q3 (fun d P4 q4 v4 H4 G4 e4 R4 r4 => q4 v4 H4 G4 (e13.trans e4) R4 r4) fun _ _ z => exW_le e13 z)
def txs : List D → Option (List Str)
  | [] => some []
  | .str b :: ds => (txs ds).map (b :: ·)
  | _ => none
theorem txs_of {G : Hp} : ∀ {vs : List V} {ds : List D} {bs : List Str}, c.reps G vs ds → txs ds = some bs → vs = bs.map V.str
  | vs, [], bs, r, h => by cases h; rw [r.nil_of']; rfl
  | [], _ :: _, _, r, _ => by have := r.1; simp at this
  | v :: vs, d :: ds, bs, r, h => by
    cases d with
    | str b =>
      simp only [txs, Option.map_eq_some_iff] at h
      obtain ⟨bs', h, rfl⟩ := h
      rw [r.head.str_of, txs_of r.tail h]
      rfl
    | _ => exact nomatch h
def tyN : D → Option String
  | .non => some "NoneType"
  | .bl _ => some "bool"
  | .int _ => some "int"
  | .str _ => some "str"
  | .lst _ => some "list"
  | .scr _ => some "list"
  | .tup _ => some "tuple"
  | .dic _ => some "dict"
  | .dcl _ => none
  | .ins _ _ => none
  | .cls _ => none
  | .tuk _ => none
  | .dct _ => none
def isB (n T : String) : Bool := n == T || (n == "bool" && T == "int")
theorem kit_isB {n T : String} (hn : n ∈ ["NoneType", "bool", "int", "str", "list", "tuple", "dict"]) (hT : T ∈ ["bool", "int", "str", "list", "tuple", "dict"]) : kitB n T = some (isB n T) := by
  have all : ∀ n ∈ ["NoneType", "bool", "int", "str", "list", "tuple", "dict"], ∀ T ∈ ["bool", "int", "str", "list", "tuple", "dict"], kitB n T = some (isB n T) := by decide +kernel
  exact all n hn T hT
theorem tyX_of {P : Pot} {σ : L2.St} {H G : Hp} {x : V} {d : D} {n : String} (R : Rel c F ρ P σ H G) (r : c.rep G x d) (h : tyN d = some n) : TyX c.K H x (.type n) ∧ n ∈ ["NoneType", "bool", "int", "str", "list", "tuple", "dict"] := by
  cases d with
  | non => cases h; rw [r.non_of]; exact ⟨.base .non, by decide⟩
  | bl b => cases h; rw [r.bl_of]; exact ⟨.base (.bl b), by decide⟩
  | int b => cases h; rw [r.int_of]; exact ⟨.base (.int b), by decide⟩
  | str b => cases h; rw [r.str_of]; exact ⟨.base (.str b), by decide⟩
  | lst xs => cases h; cases r with | lst ha hl hr => exact ⟨.base (.lst (R.post.le _ _ ha)), by decide⟩
  | scr xs =>
    cases h
    cases r with
    | scr ha =>
      refine ⟨?_, by decide⟩
      have := Evl.ex_l R.post.le ha
      rcases this with (h | ⟨o, h⟩) | ⟨o, its, n, h1, h2, h3⟩
      · exact .base (.lst h)
      · exact .base (.frz h)
      · exact .kList h1 h2
  | tup xs =>
    cases h
    cases r with
    | tup ha hl hr =>
      refine ⟨?_, by decide⟩
      have := Evl.ex_t R.post.le ha
      rcases this with (h | ⟨o, h⟩) | ⟨o, its, n, h1, h2, h3⟩
      · exact .base (.tup h)
      · exact .fTuple h
      · exact .kTuple h1 h2
  | dic xs =>
    cases h
    cases r with
    | dicK ha k hr => exact ⟨.base (.dK (R.post.le _ _ ha)), by decide⟩
    | dicT ha k hr => exact ⟨.base (.dT (R.post.le _ _ ha)), by decide⟩
  | dcl _ => cases h
  | ins _ _ => cases h
  | cls _ => cases h
  | tuk _ => cases h
  | dct _ => cases h
end
end DL
namespace DL
open PySem PySem.Spec PyProof.Rows L2
section
variable {c : Cn} {X : Cx} {F : Fr} {W : WX} {ρ : List Sl}
/-- what the written part says of instances of the class cn, asked about u -/
def InsIs (c : Cn) (cn : Str) (u : Value) (b : Bool) : Prop := ∀ C, c.mg cn = some (.ref C) → Cls c.K C ∧ PySem.W.findIn c.K (.ref C) "__class__" = some (some (.builtin "object.__class__")) ∧
  PySem.W.specialIn c.K (.builtin "object.__class__") "__get__" = some (some (.builtin "getset_descriptor.__get__")) ∧ PySem.W.takesIn c.K (.builtin "object.__class__") = some true ∧ PySem.W.mroIn c.K C (.type "object") = some true ∧
  PySem.W.kitOne c.K (.ref C) u = some b
def isiM (bt : String → Option Bool) (own : Str → Option Bool) (d : D) : M D := match d with
  | .ins cn _ => M.some ((own cn).map .bl)
  | d => match tyN d with
    | some n => M.some ((bt n).map .bl)
    | none => M.no
theorem isi_rd {bt : String → Option Bool} {own : Str → Option Bool} {u : Value} {cv : V} (hk : ClsV cv u) (hbt : ∀ n b, n ∈ ["NoneType", "bool", "int", "str", "list", "tuple", "dict"] → bt n = some b → PySem.W.kitOne c.K (.type n) u = some b) (ho : ∀ cn b, own cn = some b → InsIs c cn u b)
    {P : Pot} {σ : L2.St} {H G : Hp} {x : V} {d : D} {Q : VK} (R : Rel c F ρ P σ H G) (r : c.rep G x d)
    (q : out (isiM bt own d) P (fun d P' => ∀ v H' G', Ext G G' → Rel c F ρ P' σ H' G' → c.rep G' v d → Q v H') (exW c F W P G σ)) : rIsi c.K [x, cv] H Q := by
  have base : ∀ n, tyN d = some n → out (M.some ((bt n).map D.bl)) P (fun d P' => ∀ v H' G', Ext G G' → Rel c F ρ P' σ H' G' → c.rep G' v d → Q v H') (exW c F W P G σ) → rIsi c.K [x, cv] H Q := fun n hn q => by
    obtain ⟨d', h, q⟩ := out_some.mp q
    rw [Option.map_eq_some_iff] at h
    obtain ⟨b, h, rfl⟩ := h
    obtain ⟨t, m⟩ := tyX_of R r hn
    exact ⟨x, cv, _, u, b, rfl, hk, t, hbt n b m h, q _ H G (Ext.refl _) R (.bl _)⟩
  cases d with
  | ins cn fs =>
    obtain ⟨d', h, q⟩ := out_some.mp q
    rw [Option.map_eq_some_iff] at h
    obtain ⟨b, h, rfl⟩ := h
    cases r with
    | ins ha hc k hr =>
      obtain ⟨h1, h2, h3, h4, h5, h6⟩ := ho cn b h _ hc
      exact ⟨_, cv, _, u, b, rfl, hk, .base (.ins (R.post.le _ _ ha) h1 h2 h3 h4 h5), h6, q _ H G (Ext.refl _) R (.bl _)⟩
  | non => exact base "NoneType" rfl q
  | bl b => exact base "bool" rfl q
  | int b => exact base "int" rfl q
  | str b => exact base "str" rfl q
  | lst b => exact base "list" rfl q
  | scr b => exact base "list" rfl q
  | tup b => exact base "tuple" rfl q
  | dic b => exact base "dict" rfl q
  | dcl _ => exact q.elim
  | cls _ => exact q.elim
  | tuk _ => exact q.elim
  | dct _ => exact q.elim
theorem de_isiX {bt : String → Option Bool} {own : Str → Option Bool} {u : Value} {cv : V} {a e : Expr} {p pos : Pos} {m : M D} (hK : X.K = c.K) (hk : ClsV cv u) (hbt : ∀ n b, n ∈ ["NoneType", "bool", "int", "str", "list", "tuple", "dict"] → bt n = some b → PySem.W.kitOne c.K (.type n) u = some b) (ho : ∀ cn b, own cn = some b → InsIs c cn u b)
    (hg : Gl X "isinstance") (hm : X.mg "isinstance" = none) (ha : PE X a (rdE c F W ρ m)) (he : PE X e (tC cv)) (h1 : starEach (a :: [e]) X.env = (false, eval a X.env) :: starEach [e] X.env := by rfl) (h2 : starEach (e :: []) X.env = (false, eval e X.env) :: starEach [] X.env := by rfl)
    (hpl : (backTo pos (starEach [e] X.env)).any (·.1) = false := by rfl) : PE X (.Call (.Name "isinstance" p) [a, e] [] pos) (rdE c F W ρ (m >>= isiM bt own)) := by
  have hargs : PA X [a, e] (tCons (rdE c F W ρ m) (tCons (tC cv) tNil)) := pa_cons ha (pa_cons he pa_nil h2) h1
  refine pe_by (pe_callB call_isi hg hm PyProof.Rows.boot_isinstance hargs (by decide) (by decide) h1 hpl) fun σ H Q ⟨P, G, R, q⟩ => ?_
  refine ⟨P, G, R, out_mono (out_bind.mp q) (fun x P1 q1 v H1 G1 e1 R1 r1 => ?_) fun _ _ z => z⟩
  show rIsi X.K [v, cv] H1 Q
  rw [hK]
  exact isi_rd (W := W) hk hbt ho R1 r1 (out_mono q1 (fun d P3 q3 v3 H3 G3 e3 R3 r3 => q3 v3 H3 G3 (e1.trans e3) R3 r3) fun _ _ z => exW_le e1 z)
def isiD (T : String) : D → M D := isiM (fun n => some (isB n T)) fun _ => none
theorem de_isi {T : String} {y : Str} {a : Expr} {p py pos : Pos} {m : M D} (hK : X.K = c.K) (hT : T ∈ ["bool", "int", "str", "list", "tuple", "dict"]) (hg : Gl X "isinstance") (hm : X.mg "isinstance" = none) (ha : PE X a (rdE c F W ρ m)) (hgy : Gl X y) (hmy : X.mg y = none) (hv : bootBuiltins y = some (.type T))
    (h1 : starEach (a :: [.Name y py]) X.env = (false, eval a X.env) :: starEach [.Name y py] X.env := by rfl) (h2 : starEach (.Name y py :: []) X.env = (false, eval (.Name y py) X.env) :: starEach [] X.env := by rfl)
    (hpl : (backTo pos (starEach [.Name y py] X.env)).any (·.1) = false := by rfl) (hn : y ≠ "__name__" := by decide) (hd : (y == ("__debug__" : Str)) = false := by decide) : PE X (.Call (.Name "isinstance" p) [a, .Name y py] [] pos) (rdE c F W ρ (m >>= isiD T)) :=
  de_isiX (cv := .ty T) hK (.ty T) (fun n b hn h => by cases h; exact kit_ty (kit_isB hn hT)) (fun _ _ h => nomatch h) hg hm ha (pe_bltn hgy hmy hv rfl hn hd) h1 h2 hpl
def potGet (y : D) : M D := fun P => match P, y with
  | some ds, .int i => match atI ds i with
    | some d => .ok d (some ds)
    | none => .no
  | _, _ => .no
def potSet (y d : D) : M Unit := fun P => match P, y with
  | some ds, .int i => match ixN ds.length i with
    | some j => .ok () (some (ds.set j d))
    | none => .no
  | _, _ => .no
theorem Rel.pot_at {P : Pot} {σ : L2.St} {H G : Hp} {a : Addr} (R : Rel c F ρ P σ H G) (h : F.ap = some a) : ∃ ds vs, P = some ds ∧ H a = some (.lst vs) ∧ c.reps G vs ds ∧ G a = none := by
  have z := R.post.pot
  rw [h] at z
  cases P with
  | none => exact z.elim
  | some ds => obtain ⟨vs, z⟩ := z; exact ⟨ds, vs, rfl, z⟩
theorem de_potIx {i : Nat} {x : Str} {p pos : Pos} {b : Expr} {mb : M D} (hK : X.K = c.K) (hi : ρ[i]? = some .p) (hx : PE X (.Name x p) (tVar i)) (hb : PE X b (rdE c F W ρ mb)) (hs : PlainIx b) : PE X (.Subscript (.Name x p) b pos) (rdE c F W ρ (mb >>= potGet)) := by
  refine pe_by (pe_ix (X := X) ix_seq hx hb hs (pos := pos)) fun σ H Q ⟨P, G, R, q⟩ => ?_
  have hl : i < σ.length := by rw [R.len]; exact (List.getElem?_eq_some_iff.mp hi).1
  obtain ⟨a, ea, e⟩ := R.sl i _ _ hi (List.getElem?_eq_getElem hl)
  refine ⟨.ref a, by rw [List.getElem?_eq_getElem hl, e], P, G, R, out_mono (out_bind.mp q) (fun y P1 q1 u H1 G1 e1 R1 r1 => ?_) fun _ _ z => z⟩
  obtain ⟨ds, vs, rfl, h1, h2, h3⟩ := R1.pot_at ea
  cases y with
  | int k =>
    cases hd : atI ds k with
    | none =>
      have : (potGet (.int k)) (some ds) = .no := by unfold potGet; simp only [hd]
      unfold out at q1
      rw [this] at q1
      exact q1.elim
    | some d =>
      have : (potGet (.int k)) (some ds) = .ok d (some ds) := by unfold potGet; simp only [hd]
      have q2 := (out_eq this).mp q1
      obtain ⟨v, h4, h5⟩ := atI_rep h2 hd
      rw [hK]
      exact .inl ⟨a, vs, k, v, rfl, r1.int_of, SqL.of h1, h4, q2 v H1 G1 e1 R1 h5⟩
  | _ => exact q1.elim
theorem Reps.set {G : Hp} {vs : List V} {ds : List D} {v : V} {d : D} (h : c.reps G vs ds) (r : c.rep G v d) (j : Nat) : c.reps G (vs.set j v) (ds.set j d) := by
  refine ⟨by simp [h.1], fun i w e a b => ?_⟩
  rw [List.getElem?_set] at a b
  by_cases z : j = i
  · rw [if_pos z] at a b
    split at a
    · split at b
      · cases a; cases b; exact r
      · cases b
    · cases a
  · rw [if_neg z] at a b
    exact h.2 i w e a b
theorem Rel.potSet {ds ds' : List D} {vs' : List V} {σ : L2.St} {H G : Hp} {a : Addr} (R : Rel c F ρ (some ds) σ H G) (ha : F.ap = some a) (r : c.reps G vs' ds') : Rel c F ρ (some ds') σ (upd H a (.lst vs')) G := by
  obtain ⟨_, vs, _, h1, h2, h3⟩ := R.pot_at ha
  have ne : ∀ b u, G b = some u → b ≠ a := fun b u e z => by rw [z, h3] at e; cases e
  refine ⟨⟨R.post.ext, fun b u e => ?_, fun b u e n t => ?_, R.post.new, ?_, tabs_upd R.post.tab (fun u e => ?_), R.post.nt⟩, R.len, fun i s x p q => ?_, R.ap⟩
  · rw [upd_ne (ne b u e)]; exact R.post.le b u e
  · rw [upd_ne (fun z => n (by rw [z, ha]))]; exact R.post.fr b u e n t
  · rw [ha]; exact ⟨vs', upd_same, r, h3⟩
  · rw [h1] at e; cases e; exact ⟨nofun, nofun⟩
  · have z := R.sl i s x p q
    cases s with
    | un => exact True.intro
    | v d => exact z
    | p => exact z
    | o k =>
      obtain ⟨ad, e, ⟨u, hu, hk⟩, g, h, n⟩ := z
      exact ⟨ad, e, ⟨u, by rw [upd_ne (fun w => n (by rw [w, ha]))]; exact hu, hk⟩, g, h, n⟩
theorem ds_potSet {α : Type} {E : α → List Sl} {i : Nat} {x : Str} {p p2 pos : Pos} {b e : Expr} {mb me : M D} {a : α} (hi : ρ[i]? = some .p) (hx : PE X (.Name x p) (tVar i)) (hb : PE X b (rdE c F W ρ mb)) (he : PE X e (rdE c F W ρ me)) (hE : E a = ρ)
    (ha : ∀ v, assign (.Subscript (.Name x p) b p2) X.env v = (do
      let ov ← holding [v] (eval (.Name x p) X.env)
      let iv ← holding [v, ov] (eval b X.env)
      standAt p2
      holding [v, ov, iv] (setItem ov iv v)
      release [v, ov, iv] []) := by intro _; rfl)
    (hs : swapsWithSole [.Subscript (.Name x p) b p2] e pos.line X.env = pure false := by rfl) (hw : swappedStores [.Subscript (.Name x p) b p2] e X.env = pure none := by rfl)
    (h1 : (assignEach [.Subscript (.Name x p) b p2] X.env).map (·.2) = [assign (.Subscript (.Name x p) b p2) X.env] := by rfl) :
    PS X (.Assign [.Subscript (.Name x p) b p2] e pos) (rdS c F W ρ E (me >>= fun d => mb >>= fun y => potSet y d >>= fun _ => Pure.pure (.nx a))) := by
  refine ps_by (ps_asg he (pg_sub hx hb set_list ha) hs hw h1) fun B σ H ⟨P, G, R, q⟩ => ?_
  refine ⟨P, G, R, out_mono (out_bind.mp q) (fun d P1 q1 v H1 G1 e1 R1 r1 => ?_) fun _ _ z => exS.w z⟩
  have hl : i < σ.length := by rw [R.len]; exact (List.getElem?_eq_some_iff.mp hi).1
  obtain ⟨ad, ea, e⟩ := R1.sl i _ _ hi (List.getElem?_eq_getElem hl)
  refine ⟨.ref ad, by rw [List.getElem?_eq_getElem hl, e], P1, G1, R1, out_mono (out_bind.mp q1) (fun y P2 q2 u H2 G2 e2 R2 r2 => ?_) fun _ _ z => exW_le (P := P) e1 (exS.w z)⟩
  obtain ⟨ds, vs, rfl, g1, g2, g3⟩ := R2.pot_at ea
  have q3 := out_bind.mp q2
  cases y with
  | int k =>
    cases hd : ixN ds.length k with
    | none =>
      have : (potSet (.int k) d) (some ds) = .no := by unfold potSet; simp only [hd]
      unfold out at q3
      rw [this] at q3
      exact q3.elim
    | some j =>
      have : (potSet (.int k) d) (some ds) = .ok () (some (ds.set j d)) := by unfold potSet; simp only [hd]
      have q4 := (out_eq this).mp q3
      have q5 : ∀ σ' H' G', Ext G G' → Rel c F (E a) (some (ds.set j d)) σ' H' G' → B.nx σ' H' := q4
      refine ⟨ad, vs, k, j, rfl, r2.int_of, g1, by rw [g2.1]; exact hd, q5 σ _ G2 (e1.trans e2) ?_⟩
      rw [hE]
      exact R2.potSet ea (g2.set (r1.mono e2) j)
  | _ => exact q3.elim
def two (k : D → D → M (Fl (D × D))) : List D → M (Fl (D × D))
  | [x, y] => k x y
  | _ => M.no
theorem ds_par {i j : Nat} {x y : Str} {a b : Expr} {px py pt : Pos} {kt k2 pt2 pos} {ms : M (List Ar)} (hc : X.calm = true) (hN : X.N.Nodup) (hi : X.N[i]? = some x) (hj : X.N[j]? = some y) (hij : i ≠ j)
    (hx : X.env.scope.names.lookup x = some .local) (hy : X.env.scope.names.lookup y = some .local) (ha : PA X [a, b] (rdA c F W ρ ms))
    (hw : swappedStores [.Tuple [.Name x px, .Name y py] kt pt] (.Tuple [a, b] k2 pt2) X.env = pure (some [x, y]))
    (hs : swapsWithSole [.Tuple [.Name x px, .Name y py] kt pt] (.Tuple [a, b] k2 pt2) pos.line X.env = pure false := by rfl) :
    PS X (.Assign [.Tuple [.Name x px, .Name y py] kt pt] (.Tuple [a, b] k2 pt2) pos) (rdS c F W ρ (fun d => (ρ.set i (.v d.1)).set j (.v d.2)) (ms >>= fun as => DL.vals as >>= two fun d e => Pure.pure (.nx (d, e)))) := by
  refine ps_by (ps_par hc hN hi hj hij hx hy ha hw hs) fun B σ H ⟨P, G, R, q⟩ => ?_
  refine ⟨P, G, R, out_mono (out_bind.mp q) (fun as P1 q1 vs H1 G1 e1 R1 r1 => ?_) fun _ _ z => exS.w z⟩
  obtain ⟨ds, rs, q2⟩ := ArsOk.reps r1 (out_bind.mp q1)
  match ds, q2 with
  | [d, e], q2 =>
    obtain ⟨v, u, rfl, rv, ru⟩ := rs.two
    have q3 : ∀ σ' H' G', Ext G G' → Rel c F ((ρ.set i (.v d)).set j (.v e)) P1 σ' H' G' → B.nx σ' H' := q2
    exact ⟨v, u, rfl, q3 _ H1 G1 e1 ((R1.set rv).set ru)⟩
  | [], q2 => exact q2.elim
  | [_], q2 => exact q2.elim
  | _ :: _ :: _ :: _, q2 => exact q2.elim
end
end DL
namespace DL
open PySem PySem.Spec PyProof.Rows L2
section
variable {c : Cn} {X : Cx} {F : Fr} {W : WX} {ρ : List Sl} {α β : Type} {k : Nat}
theorem ds_raise0 {E : α → List Sl} {C : Addr} {bmB : List Value} {B newId initId : String} {x m : Str} {j : Nat} {p p2 pos pos2 : Pos} (hm : X.mg = c.mg) (hK : X.K = c.K) (hc : X.calm = true) (tk : Takes X W) (Fb : ExcBaseFacts B newId initId bmB) (q : PySem.W.excIn c.K C bmB newId = true) (gC : c.mg x = some (.ref C)) (kC : PySem.W.keepIn c.K (.ref C) = true)
    (h1 : PySem.W.subIn c.K (.ref C) (.type "BaseException") = some true) (h2 : PySem.W.typeIn c.K (.ref C) = some (.type "type")) (hg : Gl X x) (hdb : (x == ("__debug__" : Str)) = false := by decide) :
    PS X (.Raise (some (.Call (.Name x p) [.Constant (.str m) j p2] [] pos)) none pos2) (rdS c F W ρ E (M.raise ⟨x, none⟩)) := by
  refine ps_by (ps_raise hc tk (pmk_own (X := X) Fb (by rw [hK]; exact q) (by rw [hm]; exact gC) (by rw [hK]; exact kC) (raises_own (by rw [hK]; exact h1) (by rw [hK]; exact h2)) hg hdb)) fun D σ H ⟨P, G, R, z⟩ => ?_
  exact z (.ref C) none H G ρ σ (Ext.refl _) R ⟨gC, True.intro⟩
/-- the clauses: of which exceptions they are, what the suite does -/
abbrev Hd (β : Type) := (Str → Option Bool) × (Ex → M (Fl β))
def pick : List (Hd β) → Ex → M (Fl β)
  | [], e => M.raise e
  | (is, ms) :: r, e => match is e.c with
    | some true => noEx (ms e)
    | some false => pick r e
    | none => M.no
/-- what a suite is given -/
def tSuite (c : Cn) (F : Fr) (ρ : List Sl) (E : β → List Sl) (h : Hd β) : Addr → Value → Option Addr → TS := fun _ cl dd B σ H => ∃ e G, h.1 e.c = some true ∧ ExOk c H G e cl dd ∧ rdS c F W0 ρ E (h.2 e) B σ H
structure HdOk (c : Cn) (is : Str → Option Bool) (cv : Value) : Prop where
  ok : ∀ cn b, is cn = some b → ∀ cl, c.mg cn = some cl → PySem.W.exmOne c.K cl cv = some b
inductive HdsD (c : Cn) (X : Cx) (F : Fr) (ρ : List Sl) (E : β → List Sl) : List ExceptHandler → List (Value × (Addr → Value → Option Addr → TS)) → List (Hd β) → Prop
  | nil : HdsD c X F ρ E [] [] []
  | cons {x : Str} {cv : Value} {b₀ : Stmt} {suite : List Stmt} {np pos' : Pos} {h : Hd β} {hds : List ExceptHandler} {l : List (Value × (Addr → Value → Option Addr → TS))} {r : List (Hd β)} (hc : Names X x cv) (ok : HdOk c h.1 cv)
      (hsu : ∀ (a : Addr) (oe : Obj) (pn : List (Addr × Obj)) (e : Ex), h.1 e.c = some true → PSs (X.suite a ((a, oe) :: pn)) (b₀ :: suite) (rdS c F W0 ρ E (h.2 e))) (t : HdsD c X F ρ E hds l r) :
      HdsD c X F ρ E (.ExceptHandler (some (.Name x np)) none (b₀ :: suite) pos' :: hds) ((cv, tSuite c F ρ E h) :: l) (h :: r)
theorem HdsD.hds {E : β → List Sl} {hds : List ExceptHandler} {l : List (Value × (Addr → Value → Option Addr → TS))} {r : List (Hd β)} (h : HdsD c X F ρ E hds l r) : HdsOk X hds l := by
  induction h with
  | nil => exact .nil
  | cons hc ok hsu t ih =>
    refine .cons hc (fun a oe cls d pn hz hf => ⟨fun pins s σ H D I ⟨e, G, he, _, q⟩ => ?_⟩) ih
    exact (hsu a oe pn e he).run pins s σ H D I q
theorem HdsD.want {E : β → List Sl} {hds : List ExceptHandler} {l : List (Value × (Addr → Value → Option Addr → TS))} {r : List (Hd β)} (h : HdsD c X F ρ E hds l r) (hK : X.K = c.K) {D : Ends} {e : Ex} {cl : Value} {dd : Option Addr} {σ : L2.St} {H G : Hp} {P : Pot} (R : Rel c F ρ P σ H G) (x : ExOk c H G e cl dd)
    (q : out (pick r e) P (ends c F E D G) (exS c F W P G σ)) : wMany X.K W D l cl dd σ H := by
  induction h with
  | nil => exact q cl dd H G ρ σ (Ext.refl _) R x
  | @cons y cv b₀ suite np pos' h hds l r hc ok hsu t ih =>
    unfold pick at q
    cases hi : h.1 e.c with
    | none => simp only [hi] at q; exact q.elim
    | some b =>
      have hb : PySem.W.exmOne X.K cl cv = some b := by rw [hK]; exact ok.ok _ _ hi _ x.1
      cases b with
      | true =>
        simp only [hi] at q
        refine ⟨true, hb, fun _ a na => ⟨e, G, hi, x, P, G, R, ?_⟩, fun z => nomatch z⟩
        exact out_mono (out_noEx q) (fun f p z => z) fun _ _ z => z.elim
      | false =>
        simp only [hi] at q
        exact ⟨false, hb, fun z => (nomatch z), fun _ => ih q⟩
def mkN (ds : List D) : M (List D) := if ds.length ≤ sizeLine then Pure.pure ds else M.no
def thenF (m : M (Fl α)) (k : α → M (List D)) : M (List D) := m >>= fun f => match f with
  | .nx a => k a
  | _ => M.no
theorem df_ret {es : List Expr} {p pos : Pos} {ms : M (List Ar)} (h : PA X es (rdA c F W ρ ms)) : PSs X [.Return (some (.List es p)) pos] (rdF c F W ρ (ms >>= fun as => DL.vals as >>= mkN)) := by
  refine pss_by (pss_one (ps_ret (pe_lst h))) fun B σ H ⟨P, G, R, q⟩ => ?_
  refine ⟨P, G, R, out_mono (out_bind.mp q) (fun as P1 q1 vs H1 G1 e1 R1 r1 => ?_) fun _ _ z => exS.w z⟩
  obtain ⟨ds, rs, q2⟩ := ArsOk.reps r1 (out_bind.mp q1)
  unfold mkN at q2
  by_cases z : ds.length ≤ sizeLine
  · simp only [if_pos z] at q2
    refine ⟨by rw [rs.1]; exact z, fun p hp => ?_⟩
    have q3 : ∀ p vs H' G' ρ' σ', Ext G G' → Rel c F ρ' P1 σ' H' G' → H' p = some (.lst vs) → G' p = none → Fre F.H0 p → some p ≠ F.ap → c.reps G' vs ds → B.rt (.ref p) H' := q2
    exact q3 p vs _ G1 ρ σ e1 (R1.newM hp) upd_same (R1.post.g_none hp) (R1.post.h0 hp) (R1.ne_ap hp) rs
  · simp only [if_neg z] at q2; exact q2.elim
theorem df_cons {E : α → List Sl} {st : Stmt} {rest : List Stmt} {m : M (Fl α)} {g : α → M (List D)} (h1 : PS X st (rdS c F W ρ E m)) (h2 : ∀ a, PSs X rest (rdF c F W (E a) (g a))) : PSs X (st :: rest) (rdF c F W ρ (thenF m g)) := by
  refine ⟨fun pins s σ H B I ⟨P, G, R, q⟩ => ?_⟩
  have step := h1.run pins s σ H { nx := fun σ' H' => ∃ a, rdF c F W (E a) (g a) B σ' H', bk := fun _ _ => False, ct := fun _ _ => False, rt := fun _ _ => False } I ⟨P, G, R, out_mono (out_bind.mp q) (fun f P1 q1 => ?_) fun _ _ z => z⟩
  · refine wpAny_execs_cons (thn step fun fl s1 z => ?_)
    cases fl with
    | next =>
      obtain ⟨σ1, H1, I1, a, z⟩ := z
      exact (h2 a).run pins s1 σ1 H1 B I1 z
    | ret u => obtain ⟨_, _, _, _, _, z⟩ := z; exact z.elim
    | brk => obtain ⟨_, _, _, z⟩ := z; exact z.elim
    | cont => obtain ⟨_, _, _, z⟩ := z; exact z.elim
  · cases f with
    | nx a => exact fun σ' H' G' e R' => ⟨a, P1, G', R', out_mono (show out (g a) P1 _ _ from q1) (fun ds P2 z p vs H2 G2 ρ2 σ2 e2 R2 => z p vs H2 G2 ρ2 σ2 (e.trans e2) R2) fun _ _ z => exS_le e z⟩
    | rt d => exact (show False from q1).elim
    | bk a => exact (show False from q1).elim
    | ct a => exact (show False from q1).elim
theorem Rel.toPot {σ : L2.St} {H G : Hp} {p : Addr} {i : Nat} {vs : List V} {ds : List D} (R : Rel c F ρ none σ H G) (hF : F.ap = none) (hp : H p = some (.lst vs)) (hg : G p = none) (h0 : Fre F.H0 p) (r : c.reps G vs ds)
    (ow : ∀ (i : Nat) k, ρ[i]? = some (.o k) → σ[i]? ≠ some (some (V.ref p))) : Rel c ⟨F.G0, F.H0, some p⟩ (ρ.set i .p) (some ds) (σ.set i (some (.ref p))) H G := by
  refine ⟨⟨R.post.ext, R.post.le, fun b o e n t => R.post.fr b o e (by rw [hF]; exact nofun) t, R.post.new, ⟨vs, hp, r, hg⟩, R.post.tab, R.post.nt⟩, by simp [R.len], fun j s x a b => ?_, fun j j' k k' a h1 h2 h3 h4 => ?_⟩
  · rw [List.getElem?_set] at a b
    by_cases e : i = j
    · rw [if_pos e] at a b
      split at a
      · split at b
        · cases a; cases b; exact ⟨p, rfl, rfl⟩
        · cases b
      · cases a
    · rw [if_neg e] at a b
      have z := R.sl j s x a b
      cases s with
      | un => exact True.intro
      | v d => exact z
      | p => obtain ⟨_, z, _⟩ := z; rw [hF] at z; cases z
      | o k =>
        obtain ⟨ad, e, u, g, h, n⟩ := z
        exact ⟨ad, e, u, g, h, fun z => ow j k a (by rw [b, e]; cases z; rfl)⟩
  · have ne : ∀ {m : Nat} {kk : Cel}, (ρ.set i Sl.p)[m]? = some (.o kk) → i ≠ m := fun {m kk} h e => by
      rw [List.getElem?_set, if_pos e] at h
      split at h <;> cases h
    have n1 := ne h1
    have n2 := ne h2
    rw [List.getElem?_set_ne n1] at h1 h3
    rw [List.getElem?_set_ne n2] at h2 h4
    exact R.ap j j' k k' a h1 h2 h3 h4
def unP : Sl → Sl
  | .p => .un
  | s => s
theorem Rel.ofPot {σ : L2.St} {H G : Hp} {p : Addr} {ds : List D} (R : Rel c ⟨F.G0, F.H0, some p⟩ ρ (some ds) σ H G) (hF : F.ap = none) (h0 : Fre F.H0 p) : Rel c F (ρ.map unP) none σ H G := by
  have back : ∀ (i : Nat) k, (ρ.map unP)[i]? = some (.o k) → ρ[i]? = some (.o k) := fun i k e => by
    rw [List.getElem?_map] at e
    cases h : ρ[i]? with
    | none => rw [h] at e; cases e
    | some s => rw [h] at e; cases s <;> simp [unP] at e; rw [e]
  refine ⟨⟨R.post.ext, R.post.le, fun b o e n t => R.post.fr b o e (fun z => by cases z; exact h0.no e t) t, R.post.new, by rw [hF]; exact True.intro, R.post.tab, R.post.nt⟩, by simpa using R.len, fun j s x a b => ?_, fun j j' k k' a h1 h2 h3 h4 => R.ap j j' k k' a (back _ _ h1) (back _ _ h2) h3 h4⟩
  rw [List.getElem?_map] at a
  cases h : ρ[j]? with
  | none => rw [h] at a; cases a
  | some s' =>
    rw [h] at a
    have z := R.sl j s' x h b
    cases s' <;> cases a
    · exact True.intro
    · exact z
    · obtain ⟨ad, e, u, g, h, n⟩ := z
      exact ⟨ad, e, u, g, h, by rw [hF]; exact nofun⟩
    · exact True.intro
/-- a call of a def that returns a new list -/
def rdN (c : Cn) (F : Fr) (W : WX) (ρ : List Sl) (m : M (List D)) : TE := fun σ H Q => ∃ P G, Rel c F ρ P σ H G ∧ out m P (fun ds P' => ∀ p vs H' G', Ext G G' → Rel c F ρ P' σ H' G' → H' p = some (.lst vs) → G' p = none → Fre F.H0 p → some p ≠ F.ap → (∀ (i : Nat) k, ρ[i]? = some (.o k) → σ[i]? ≠ some (some (V.ref p))) → c.reps G' vs ds → Q (.ref p) H') (exW c F W P G σ)
theorem de_callF {f : Addr} {fd : FuncData} {mf : List Ar → M (List D)} {ms : M (List Ar)} {x : Str} {p pos : Pos} {e : Expr} {es : List Expr} {ps : List Str} (C : Ctx c X k) (tk : Takes X W)
    (fn : FnG X.prog X.w X.K X.mg X.base k f fd ps (spF c mf)) (hg : Gl X x) (hm : c.mg x = some (.ref f)) (hk : PySem.W.keepIn c.K (.ref f) = true) (hb : Binds c.K fd ps [])
    (ha : PA X (e :: es) (rdA c F W ρ ms)) (hdb : (x == ("__debug__" : Str)) = false := by decide) (he : starEach (e :: es) X.env = (false, eval e X.env) :: starEach es X.env := by rfl) (hpl : (backTo pos (starEach es X.env)).any (·.1) = false := by rfl) :
    PE X (.Call (.Name x p) (e :: es) [] pos) (rdN c F W ρ (ms >>= mf)) := by
  refine ⟨fun pins s σ H Q I ⟨P, G, R, q⟩ => ?_⟩
  have hx : X.mg x = some (.ref f) := by rw [C.mg]; exact hm
  have kf : PySem.W.keepIn X.K (.ref f) = true := by rw [C.K]; exact hk
  have hb' : Binds X.K fd ps [] := by rw [C.K]; exact hb
  refine wpAny_Call_Name_kw (ld_glob I hg hx ?_ hdb)
  have step := ha.run pos pins s σ H (fun vs H1 => spF c mf vs H1 Q (WE W σ)) I
    ⟨P, G, R, out_mono (out_bind.mp q) (fun as P1 q1 vs H1 G1 e1 R1 r1 => ?_) fun _ _ z => z⟩
  · exact PySem.W.callWith_K (h₀ := X.base) I.ok.mod.kin kf (thn step fun us s1 ⟨vs, H1, I1, rv, z⟩ => ⟨I1.kIn, run_g C.ga C.rm tk fn hb' I1 rv z⟩) he hpl
  · exact ⟨F.ap, G1, P1, as, R1.post.refl', ArsOk.fr (F := F) (F' := ⟨G1, H1, F.ap⟩) rfl r1, out_mono q1 (fun ds P2 z p ws H' G' po h1 h2 h3 h4 r' => z p ws H' G' (e1.trans po.ext) (R1.after po) h1 h2 (R1.post.fre h3) h4 (R1.own_fre h3) r') fun e P2 z cl dd H' G' po k => z cl dd H' G' ρ (e1.trans po.ext) (R1.after po) k⟩
def withPot (ds : List D) (m : M (Fl β)) : M (Fl β) := fun P => match P with
  | none => match m (some ds) with
    | .ok f (some _) => .ok f none
    | .ex e (some _) => .ex e none
    | _ => .no
  | some _ => .no
/-- x = f(..), x the pot of what follows -/
theorem ds_pot {E E2 : β → List Sl} {i : Nat} {x : Str} {e : Expr} {rest : List Stmt} {pos pos' : Pos} {m : M (List D)} {mr : M (Fl β)} (hN : X.N.Nodup) (hi : X.N[i]? = some x) (hx : Loc X.env.scope x) (h : PE X e (rdN c F W ρ m))
    (hr : ∀ a, PSs X rest (rdS c ⟨F.G0, F.H0, some a⟩ W (ρ.set i .p) E2 mr)) (hE : ∀ b, E b = (E2 b).map unP) (hs : swapsWith e (some (.Name x pos')) pos.line X.env = pure false := by rfl) (hf : X.fn x = true ∨ X.env.scope.names.lookup x = some .local := by first | exact .inl rfl | exact .inr rfl | assumption) :
    PSs X (.Assign [.Name x pos'] e pos :: rest) (rdS c F W ρ E (m >>= fun ds => withPot ds mr)) := by
  refine pss_by (pss_cons (ps_set hN hi hx h hs hf) (pss_ex hr)) fun B σ H ⟨P, G, R, q⟩ => ?_
  refine ⟨P, G, R, out_mono (out_bind.mp q) (fun ds P1 q1 p vs H1 G1 e1 R1 h1 h2 h3 h4 h5 r1 => ?_) fun _ _ z => exS.w z⟩
  cases P1 with
  | some _ => exact q1.elim
  | none =>
    have hF : F.ap = none := by
      have z := R1.post.pot
      cases e : F.ap with
      | none => rfl
      | some a => rw [e] at z; exact z.elim
    refine ⟨p, some ds, G1, R1.toPot hF h1 h2 h3 r1 h5, ?_⟩
    unfold out withPot at q1
    unfold out
    cases hm : mr (some ds) with
    | no => simp only [hm] at q1
    | ok f P2 =>
      cases P2 with
      | none => simp only [hm] at q1
      | some ds2 =>
        simp only [hm] at q1
        cases f with
        | nx b => exact fun σ' H' G' e R' => q1 σ' H' G' (e1.trans e) (by rw [hE]; exact R'.ofPot hF h3)
        | bk b => exact fun σ' H' G' e R' => q1 σ' H' G' (e1.trans e) (by rw [hE]; exact R'.ofPot hF h3)
        | ct b => exact fun σ' H' G' e R' => q1 σ' H' G' (e1.trans e) (by rw [hE]; exact R'.ofPot hF h3)
        | rt d => exact fun v H' G' ρ' σ' e R' k => q1 v H' G' _ σ' (e1.trans e) (R'.ofPot hF h3) k
    | ex x P2 =>
      cases P2 with
      | none => simp only [hm] at q1
      | some ds2 =>
        simp only [hm] at q1
        exact fun cl dd H' G' ρ' σ' e R' k => q1 cl dd H' G' _ σ' (e1.trans e) (R'.ofPot hF h3) k
end
end DL
namespace DL
open PySem PySem.Spec PyProof.Rows L2
section
variable {c : Cn} {F : Fr} {W : WX} {ρ : List Sl} {X : Cx} {tg : Expr}
def chrs (x : Str) : List D := x.cps.toList.map fun a => .str ⟨#[a]⟩
def iterA : D → M (List D)
  | .str x => Pure.pure (chrs x)
  | d => iterD d
theorem goes_str {x : Str} {G : Hp} : Goes c (Its x) (chrs x) G := by
  intro F ρ i P σ H G1 e R
  refine ⟨fun hi => (show x.cps.size ≤ i by simpa [chrs] using Nat.le_of_eq hi), fun d hd => ?_⟩
  unfold chrs at hd
  rw [List.getElem?_map, Option.map_eq_some_iff] at hd
  obtain ⟨a, ha, rfl⟩ := hd
  rw [Array.getElem?_toList] at ha
  refine ⟨(Array.getElem?_eq_some_iff.mp ha).1, fun v H' y => ?_⟩
  obtain ⟨rfl, b, hb, rfl⟩ := y
  rw [ha] at hb
  cases hb
  exact ⟨G1, Ext.refl _, R, .str _⟩
theorem di_any {e : Expr} {m : M D} (hK : X.K = c.K) (h : PE X e (rdE c F W ρ m)) : PI X tg e (rdI c F W ρ (m >>= iterA)) := by
  refine pi_by (pi_or (di_seq hK h) (pi_str h)) fun σ H R q => ?_
  obtain ⟨P, G, Rl, q⟩ := q
  have q' := out_bind.mp q
  cases e : m P with
  | no => unfold out at q'; rw [e] at q'; exact q'.elim
  | ex x p =>
    refine .inr ⟨P, G, Rl, ?_⟩
    unfold out at q' ⊢
    rw [e] at q' ⊢
    exact q'
  | ok d p =>
    unfold out at q'
    rw [e] at q'
    have seq : out (iterD d) p (fun ds P' => ∀ J H' G', Ext G G' → Rel c F ρ P' σ H' G' → Goes c J ds G' → R J H') (exW c F W P G σ) → rdI c F W ρ (m >>= iterD) σ H R := fun q => ⟨P, G, Rl, out_bind.mpr ((out_eq e).mpr q)⟩
    cases d with
    | str x => exact .inr ⟨P, G, Rl, (out_eq e).mpr fun v H1 G1 e1 R1 r1 => ⟨x, r1.str_of, q' _ H1 G1 e1 R1 goes_str⟩⟩
    | lst ds => exact .inl (seq q')
    | tup ds => exact .inl (seq q')
    | scr ds => exact .inl (seq q')
    | _ => exact q'.elim
end
inductive SV where
  | l (a : Addr) | t (a : Addr) | s (x : Str) (u : Tok)
namespace SV
def at' (K : PySem.W.Frag) (H : Hp) (i : Nat) (v : V) : SV → Prop
  | .l a => ∃ xs, SqL K H a xs ∧ xs[i]? = some v
  | .t a => ∃ xs, SqT K H a xs ∧ xs[i]? = some v
  | .s x _ => ∃ b, x.cps[i]? = some b ∧ v = .str ⟨#[b]⟩
def len (K : PySem.W.Frag) (H : Hp) (n : Nat) : SV → Prop
  | .l a => ∃ xs, SqL K H a xs ∧ n = xs.length
  | .t a => ∃ xs, SqT K H a xs ∧ n = xs.length
  | .s x _ => n = x.cps.size
def fp (i : Addr) : SV → List Addr
  | .l a => [i, a]
  | .t a => [i, a]
  | .s _ _ => [i]
theorem mem {S : SV} {i : Addr} : i ∈ S.fp i := by cases S <;> simp [fp]
end SV
end DL
namespace DL
open PySem PySem.Spec PyProof.Rows L2
section
variable {c : Cn} {X : Cx} {F : Fr} {W : WX} {ρ : List Sl} {α β : Type}
inductive FogL : List Sl → List Sl → Prop
  | n : FogL [] []
  | k {a : Sl} {r r' : List Sl} (t : FogL r r') : FogL (a :: r) (a :: r')
  | u {a : Sl} {r r' : List Sl} (t : FogL r r') : FogL (a :: r) (.un :: r')
theorem FogL.len {r r' : List Sl} (h : FogL r r') : r'.length = r.length := by
  induction h with
  | n => rfl
  | k _ ih => simp [ih]
  | u _ ih => simp [ih]
theorem FogL.at' {r r' : List Sl} (h : FogL r r') : ∀ (i : Nat) a b, r[i]? = some a → r'[i]? = some b → Fog a b := by
  induction h with
  | n => intro i a b h; simp at h
  | @k a r r' t ih =>
    intro i x y h1 h2
    cases i with
    | zero => simp at h1 h2; subst h1; subst h2; cases a <;> first | exact True.intro | rfl
    | succ i => exact ih i x y (by simpa using h1) (by simpa using h2)
  | @u a r r' t ih =>
    intro i x y h1 h2
    cases i with
    | zero => simp at h1 h2; subst h2; exact True.intro
    | succ i => exact ih i x y (by simpa using h1) (by simpa using h2)
theorem Rel.fogL {P : Pot} {σ : L2.St} {H G : Hp} {ρ' : List Sl} (h : FogL ρ ρ') (R : Rel c F ρ P σ H G) : Rel c F ρ' P σ H G := R.fog h.len h.at'
theorem ds_end {E : α → List Sl} {a : α} (h : FogL ρ (E a)) : PSs X [] (rdS c F W ρ E (Pure.pure (.nx a))) := by
  refine pss_by pss_nil fun B σ H ⟨P, G, R, q⟩ => ?_
  have q' : ∀ σ' H' G', Ext G G' → Rel c F (E a) P σ' H' G' → B.nx σ' H' := q
  exact q' σ H G (Ext.refl G) (R.fogL h)
/-- a def that may be called by its name -/
structure Cal (P : Program) (w : World) (K : PySem.W.Frag) (mg : Str → Option Value) (base : Heap) (k : Nat) (x : Str) (sp : Sp) : Prop where
  ex : ∃ (f : Addr) (fd : FuncData) (ps : List Str), FnG P w K mg base k f fd ps sp ∧ mg x = some (.ref f) ∧ PySem.W.keepIn K (.ref f) = true ∧ Binds K fd ps []
theorem de_callC {k j : Nat} {mf : List Ar → M D} {ms : M (List Ar)} {x : Str} {p pos : Pos} {e : Expr} {es : List Expr} (fn : Cal X.prog X.w c.K c.mg X.base k x (spD c mf)) (C : Ctx c X j) (hj : k ≤ j) (tk : Takes X W) (hg : Gl X x)
    (ha : PA X (e :: es) (rdA c F W ρ ms)) (hdb : (x == ("__debug__" : Str)) = false := by decide) (he : starEach (e :: es) X.env = (false, eval e X.env) :: starEach es X.env := by rfl) (hpl : (backTo pos (starEach es X.env)).any (·.1) = false := by rfl) :
    PE X (.Call (.Name x p) (e :: es) [] pos) (rdE c F W ρ (ms >>= mf)) := by
  obtain ⟨f, fd, ps, h, hm, hk, hb⟩ := fn.ex
  have h' : FnG X.prog X.w X.K X.mg X.base k f fd ps (spD c mf) := by rw [C.K, C.mg]; exact h
  exact de_call (C.mono hj) tk h' hg hm hk hb ha hdb he hpl
theorem de_callCF {k j : Nat} {mf : List Ar → M (List D)} {ms : M (List Ar)} {x : Str} {p pos : Pos} {e : Expr} {es : List Expr} (fn : Cal X.prog X.w c.K c.mg X.base k x (spF c mf)) (C : Ctx c X j) (hj : k ≤ j) (tk : Takes X W) (hg : Gl X x)
    (ha : PA X (e :: es) (rdA c F W ρ ms)) (hdb : (x == ("__debug__" : Str)) = false := by decide) (he : starEach (e :: es) X.env = (false, eval e X.env) :: starEach es X.env := by rfl) (hpl : (backTo pos (starEach es X.env)).any (·.1) = false := by rfl) :
    PE X (.Call (.Name x p) (e :: es) [] pos) (rdN c F W ρ (ms >>= mf)) := by
  obtain ⟨f, fd, ps, h, hm, hk, hb⟩ := fn.ex
  have h' : FnG X.prog X.w X.K X.mg X.base k f fd ps (spF c mf) := by rw [C.K, C.mg]; exact h
  exact de_callF (C.mono hj) tk h' hg hm hk hb ha hdb he hpl
theorem de_dic0 {pos : Pos} : PE X (.Dict [] [] pos) (rdE c F W ρ (Pure.pure (.dic []))) := pe_by pe_dnewK fun σ H Q ⟨P, G, R, q⟩ p hp => by
  obtain ⟨R2, e2⟩ := R.new hp (nt_dK (xs := []))
  exact q _ _ _ e2 R2 (.dicK upd_same rfl fun i p q h => by simp at h)
theorem mergeK_nodup : ∀ (more kvs : List (Key × V)), (kvs.map (·.1) ++ more.map (·.1)).Nodup → mergeK kvs more = kvs ++ more
  | [], kvs, _ => by show kvs = kvs ++ []; simp
  | p :: r, kvs, h => by
    have hn : (kvs.any fun kv => decide (kv.1 = p.1)) = false := by
      rw [List.any_eq_false]
      intro kv hk e
      have e : kv.1 = p.1 := by simpa using e
      have := (List.nodup_append.mp h).2.2 kv.1 (List.mem_map.mpr ⟨kv, hk, rfl⟩) p.1 (List.mem_map.mpr ⟨p, List.mem_cons_self, rfl⟩)
      exact this e
    have hp : putK kvs p.1 p.2 = kvs ++ [p] := by
      unfold putK
      rw [hn]
      rfl
    show mergeK (putK kvs p.1 p.2) r = _
    rw [hp, mergeK_nodup r (kvs ++ [p]) (by simpa [List.append_assoc] using h)]
    simp
end
end DL
namespace DL
open PySem PySem.Spec PyProof.Rows L2
theorem hu_64 {k : Nat} {A : Around} (r : Room k A) : A.units + 64 < cLine := by have := r.un; omega
theorem hu_65 {k : Nat} {A : Around} (r : Room k A) : A.units + 65 < cLine := by have := r.un; omega
theorem hu_102 {k : Nat} {A : Around} (r : Room k A) : A.units + 102 < cLine := by have := r.un; omega
/-- an own exception class without an __init__ of its own -/
structure Exc0 (K : PySem.W.Frag) (mg : Str → Option Value) (x : Str) : Prop where
  ex : ∃ (C : Addr) (bmB : List Value) (B newId initId : String), ExcBaseFacts B newId initId bmB ∧ PySem.W.excIn K C bmB newId = true ∧ mg x = some (.ref C) ∧ PySem.W.keepIn K (.ref C) = true ∧ PySem.W.subIn K (.ref C) (.type "BaseException") = some true ∧ PySem.W.typeIn K (.ref C) = some (.type "type")
/-- a class that an except clause names; is: of which own classes it is a base -/
structure Hand0 (K : PySem.W.Frag) (mg : Str → Option Value) (x : Str) (is : Str → Option Bool) : Prop where
  ex : ∃ cv, mg x = some cv ∧ HdOk ⟨mg, K, []⟩ is cv
section
variable {c : Cn} {X : Cx} {F : Fr} {W : WX} {ρ : List Sl} {α β : Type}
theorem ds_raiseC {E : α → List Sl} {x m : Str} {j : Nat} {p p2 pos pos2 : Pos} (e : Exc0 c.K c.mg x) (hm : X.mg = c.mg) (hK : X.K = c.K) (hc : X.calm = true) (tk : Takes X W) (hg : Gl X x) (hdb : (x == ("__debug__" : Str)) = false := by decide) :
    PS X (.Raise (some (.Call (.Name x p) [.Constant (.str m) j p2] [] pos)) none pos2) (rdS c F W ρ E (M.raise ⟨x, none⟩)) := by
  obtain ⟨C, bmB, B, newId, initId, f, q, g, k, s, t⟩ := e.ex
  exact ds_raise0 hm hK hc tk f q g k s t hg hdb
end
end DL
namespace DL
open PySem PySem.Spec PyProof.Rows L2
section
variable {c : Cn}
theorem opd_lt : OpD c (rOrd (fun i j => decide (i < j)) ltS) ltD := opd_ord
theorem opd_le : OpD c (rOrd (fun i j => decide (i ≤ j)) (fun i j => !ltS j i)) leD := opd_ord
theorem opd_gt : OpD c (rOrd (fun i j => decide (j < i)) (fun i j => ltS j i)) gtD := opd_ord
end
end DL
namespace DL
open PySem PySem.Spec PyProof.Rows L2
section
variable {c : Cn} {X : Cx} {F : Fr} {W : WX} {ρ ρ' : List Sl} {α : Type}
theorem de_at {e : Expr} {m : M D} (h : ρ = ρ') (k : PE X e (rdE c F W ρ' m)) : PE X e (rdE c F W ρ m) := by rw [h]; exact k
theorem dt_at {e : Expr} {m : M Bool} (h : ρ = ρ') (k : PT X e (rdT c F W ρ' m)) : PT X e (rdT c F W ρ m) := by rw [h]; exact k
theorem ds_at {ss : List Stmt} {E : α → List Sl} {m : M (Fl α)} (h : ρ = ρ') (k : PSs X ss (rdS c F W ρ' E m)) : PSs X ss (rdS c F W ρ E m) := by rw [h]; exact k
theorem df_at {ss : List Stmt} {m : M (List D)} (h : ρ = ρ') (k : PSs X ss (rdF c F W ρ' m)) : PSs X ss (rdF c F W ρ m) := by rw [h]; exact k
end
end DL
namespace DL
open PySem PySem.Spec PyProof.Rows L2
section
variable {P : Program} {w : World} {K : PySem.W.Frag} {mg : Str → Option Value} {base : Heap} {x : Str} {sp : Sp}
theorem FnG.mono {j k : Nat} {f : Addr} {fd : FuncData} {ps : List Str} (h : FnG P w K mg base j f fd ps sp) (l : j ≤ k) : FnG P w K mg base k f fd ps sp :=
  ⟨h.ln, fun A fr s H us vs args Q E ga r => h.go A fr s H us vs args Q E ga (r.mono l)⟩
theorem Cal.mono {j k : Nat} (h : Cal P w K mg base j x sp) (l : j ≤ k) : Cal P w K mg base k x sp := by
  obtain ⟨f, fd, ps, a, b⟩ := h.ex
  exact ⟨f, fd, ps, a.mono l, b⟩
end
/-- one own class caught by a class -/
theorem hd_one {K : PySem.W.Frag} {mg : Str → Option Value} {x y : Str} {C D : Addr} {b : Bool} (hy : mg y = some (.ref D)) (h : PySem.W.exmOne K (.ref D) (.ref C) = some b) : ∀ cl, mg y = some cl → PySem.W.exmOne K cl (.ref C) = some b := fun cl e => by
  rw [hy] at e
  cases e
  exact h
end DL
namespace SX
open PySem PySem.Spec PyProof.Rows L2
def kvl : Key → Tok → Value
  | .inl i, t => .int i t
  | .inr x, t => .str x t
def ko (v : Value) : Key := match v with
  | .int k _ => .inl k
  | .str x _ => .inr x
  | _ => .inl 0
def mm (ks : List Key) (j : Key) : Bool := ks.any fun k => decide (k = j)
theorem mm_iff {ks : List Key} {j : Key} : mm ks j = true ↔ j ∈ ks := by
  unfold mm
  rw [List.any_eq_true]
  exact ⟨fun ⟨k, h, e⟩ => by rw [← of_decide_eq_true e]; exact h, fun h => ⟨j, h, decide_eq_true rfl⟩⟩
theorem mm_add {a : List Key} {j z : Key} : mm (a ++ [z]) j = (mm a j || decide (j = z)) := by
  unfold mm
  rw [List.any_append]
  simp only [List.any_cons, List.any_nil, Bool.or_false]
  congr 1
  by_cases e : j = z
  · subst e; rfl
  · rw [decide_eq_false e, decide_eq_false fun q => e q.symm]
theorem ko_kvl (k : Key) (t : Tok) : ko (kvl k t) = k := by cases k <;> rfl
theorem kvl_is {P : Program} {w : World} (k : Key) (t : Tok) : (mixKind P w).is k (kvl k t) = true := by
  cases k with
  | inl i => exact mixKind_int P w i t
  | inr x => exact mixKind_str P w x t
theorem kvl_scan (k : Key) (t : Tok) : (kvl k t).scannable = true := by cases k <;> rfl
def Gd (P : Program) (w : World) (e : Int × Value) : Prop := ∃ k t, e.2 = kvl k t ∧ e.1 = (mixKind P w).hash k
abbrev keysE (es : Array (Int × Value)) : List Key := es.toList.map fun e => ko e.2
/-- the set of keys at a, with a table that can be walked -/
def SetS (P : Program) (w : World) (h : Heap) (a : Addr) (S : Key → Bool) (n : Nat) : Prop := ∃ (o : Obj) (es : Array (Int × Value)) (ep : Nat) (t : SetTable),
  h.get? a = some o ∧ o.ExactSet ∧ o.data = .set es ep t ∧ (∀ e ∈ es.toList, Gd P w e) ∧ (keysE es).Nodup ∧ (∀ k, S k = true ↔ k ∈ keysE es) ∧
  es.size < scanBound ∧ t.fits es.size = true ∧ es.size = n ∧ Ris t.place.toList ∧ (w.params.followText "set-order" = true ∨ t.led = true)
section
variable {P : Program} {w : World} {h h' : Heap} {a : Addr} {S : Key → Bool} {n : Nat}
theorem SetS.at (R : SetS P w h a S n) (k : ∀ o, h.get? a = some o → h'.get? a = some o) : SetS P w h' a S n := by
  obtain ⟨o, es, ep, t, ho, r⟩ := R; exact ⟨o, es, ep, t, k o ho, r⟩
theorem SetS.congr {S' : Key → Bool} (R : SetS P w h a S n) (e : ∀ k, S' k = S k) : SetS P w h a S' n := (show S' = S from funext e) ▸ R
theorem gd_elems {l : List (Int × Value)} (g : ∀ e ∈ l, Gd P w e) : ElemsOf (mixKind P w) l := fun e he => by
  obtain ⟨k, t, q, r⟩ := g e he
  exact ⟨⟨k, q ▸ kvl_is k t, r⟩, q ▸ kvl_scan k t⟩
theorem gd_is {e : Int × Value} (g : Gd P w e) (k : Key) : (mixKind P w).is k e.2 = true ↔ ko e.2 = k := by
  obtain ⟨j, t, q, _⟩ := g
  rw [q, ko_kvl]
  exact ⟨fun z => (mixKind P w).inj (kvl j t) j k (kvl_is j t) z, fun z => z ▸ kvl_is j t⟩
theorem gd_mem {l : List (Int × Value)} (g : ∀ e ∈ l, Gd P w e) (k : Key) : k ∈ l.map (fun e => ko e.2) ↔ ∃ e ∈ l, (mixKind P w).is k e.2 = true :=
  ⟨fun m => let ⟨e, he, q⟩ := List.mem_map.mp m; ⟨e, he, (gd_is (g e he) k).2 q⟩, fun ⟨e, he, q⟩ => List.mem_map.mpr ⟨e, he, (gd_is (g e he) k).1 q⟩⟩
end
section
variable {P : Program} {w : World} {A : Around} {E : Value → Shared → Prop} {s : Shared} {a : Addr} {S : Key → Bool} {n : Nat}
theorem tailS {g : Bool → Sem Unit} (hg : ∀ (b : Bool) (s1 : Shared) (Z : Unit → Shared → Prop), Z () s1 → wpAny (model P w) A (g b) Z E s1)
    {o : Obj} {es : Array (Int × Value)} {ep : Nat} {t : SetTable} (ho : s.heap.get? a = some o) (hx : o.ExactSet) (hd : o.data = .set es ep t)
    {es1 : Array (Int × Value)} {t2 : SetTable} {S' : Key → Bool} (g1 : ∀ e ∈ es1.toList, Gd P w e) (nd : (keysE es1).Nodup) (m1 : ∀ k, S' k = true ↔ k ∈ keysE es1)
    (hb : es1.size < scanBound) (hf : t2.fits es1.size = true) (hr : Ris t2.place.toList) (hl : w.params.followText "set-order" = true ∨ t2.led = true) {was : Bool} {R : Option Bool → Shared → Prop}
    (hR : ∀ h', Heap.SameBut a s.heap h' → SetS P w h' a S' es1.size → R (some true) { s with heap := h' }) :
    wpAny (model P w) A (storeSet a es1 t2 >>= fun _ => if (!was && t2.tooFull) = true then
        (g (relayAll t2 es1 (SetTable.grown es1.size)).2.2 >>= fun _ => storeSet a (relayAll t2 es1 (SetTable.grown es1.size)).1 (relayAll t2 es1 (SetTable.grown es1.size)).2.1 >>= fun _ => pure (some true))
      else pure (some true)) R E s := by
  have st := store_at (es' := es1) (t' := t2) ho hd
  have sb := Heap.SameBut.update s.heap a (Obj.putSet es1 t2)
  refine wpAny_bind (wpAny_storeSet_of ho hd ?_ (fits_of_scanBound hb))
  by_cases c : (!was && t2.tooFull) = true
  · rw [if_pos c]
    have p := relayAll_perm t2 es1 (SetTable.grown es1.size)
    have f3 := relayAll_fits t2 es1 (SetTable.grown es1.size)
    have r3 := relayAll_ris t2 es1 (SetTable.grown es1.size)
    have l3 := relayAll_led t2 es1 (SetTable.grown es1.size)
    generalize relayAll t2 es1 (SetTable.grown es1.size) = Z at p f3 r3 l3 ⊢
    have hz : Z.1.size = es1.size := by rw [← Array.length_toList, p.length_eq, Array.length_toList]
    have hb2 : Z.1.size < scanBound := hz ▸ hb
    refine wpAny_bind (hg _ _ _ (wpAny_bind (wpAny_storeSet_of st rfl ?_ (fits_of_scanBound hb2))))
    have pk : (keysE Z.1).Perm (keysE es1) := p.map _
    refine wpAny_pure (hR _ (sb.trans (Heap.SameBut.update _ a _)) ⟨_, Z.1, _, Z.2.1, store_at (es' := Z.1) (t' := Z.2.1) st rfl, hx, rfl, fun e he => g1 e (p.mem_iff.mp he), pk.nodup_iff.mpr nd, fun k => (m1 k).trans pk.mem_iff.symm, hb2, f3, hz, r3, hl.imp id fun z => l3.trans z⟩)
  · rw [if_neg c]
    exact wpAny_pure (hR _ sb ⟨_, es1, _, t2, st, hx, rfl, g1, nd, m1, hb, hf, rfl, hr, hl⟩)
theorem addS {k : Key} {tk : Tok} {Q : Bool → Shared → Prop} (R : SetS P w s.heap a S n) (room : n + 1 < scanBound)
    (hQ : ∀ h', Heap.SameBut a s.heap h' → SetS P w h' a (fun j => S j || decide (j = k)) (if S k = true then n else n + 1) → Q (!S k) { s with heap := h' }) :
    wpAny (model P w) A (setAddHashed a (kvl k tk) ((mixKind P w).hash k)) Q E s := by
  obtain ⟨o, es, ep, t, ho, hx, hd, g, nd, hm, hb, hf, hn, hr, hl⟩ := R
  have kk : (mixKind P w).is k (kvl k tk) = true := kvl_is k tk
  have el : ElemsOf (mixKind P w) es.toList := gd_elems g
  unfold setAddHashed; unfold setAddHashedIn
  refine wpAny_holding ?_
  refine wpAny_bind (wpAny_setState_of ho hd hf ?_)
  dsimp only; rw [byScan_of (kvl_scan k tk) hb el]; simp only [↓reduceIte]
  unfold setAddByScan
  refine wpAny_bind (wpAny_bind (wpAny_rule (wpAny_bind (wpAny_setScan_of kk ho hd hf el ?_))))
  cases fi : List.findIdx? (fun e => (mixKind P w).is k e.2) es.toList with
  | some j =>
    obtain ⟨hj, pj, _⟩ := List.findIdx?_eq_some_iff_getElem.mp fi
    have sk : S k = true := (hm k).2 ((gd_mem (P := P) (w := w) g k).2 ⟨es.toList[j], List.getElem_mem hj, pj⟩)
    dsimp only
    refine wpAny_pure (wpAny_pure ?_)
    have q := hQ s.heap (Heap.SameBut.refl a s.heap) ⟨o, es, ep, t, ho, hx, hd, g, nd, fun i => by
      rw [Bool.or_eq_true, decide_eq_true_eq, ← hm i]; exact ⟨fun z => z.elim id (fun e => e ▸ sk), .inl⟩, hb, hf, by rw [if_pos sk]; exact hn, hr, hl⟩
    rw [sk] at q; exact q
  | none =>
    have nk : k ∉ keysE es := fun z => by
      obtain ⟨e, he, q⟩ := (gd_mem (P := P) (w := w) g k).1 z
      have c := List.findIdx?_eq_none_iff.mp fi e he
      rw [q] at c; cases c
    have sk : S k = false := Bool.eq_false_iff.mpr fun q => nk ((hm k).1 q)
    have gw : ∀ (b : Bool) {s1 : Shared} {Z : Unit → Shared → Prop}, Z () s1 → wpAny (model P w) A (match b with | true => rule "set.scan.the-table-gave-way" | false => pure ()) Z E s1 := fun b s1 Z q => by
      cases b
      · exact wpAny_pure q
      · exact wpAny_rule q
    have pm := layNew_perm t es ((mixKind P w).hash k) (kvl k tk)
    have f1 := layNew_fits t es ((mixKind P w).hash k) (kvl k tk)
    have r1 := layNew_ris t es ((mixKind P w).hash k) (kvl k tk) hr
    have l1 := layNew_led t es ((mixKind P w).hash k) (kvl k tk)
    dsimp only
    generalize layNew t es ((mixKind P w).hash k) (kvl k tk) = Z at pm f1 r1 l1 ⊢
    obtain ⟨es1, t1, was, gave⟩ := Z
    dsimp only at pm f1 r1 l1 ⊢
    rw [Array.toList_push] at pm
    have pc : es1.toList.Perm (((mixKind P w).hash k, kvl k tk) :: es.toList) := pm.trans (List.perm_append_singleton _ _)
    have pk : (keysE es1).Perm (k :: keysE es) := by
      have := pc.map fun e => ko e.2
      rwa [List.map_cons, ko_kvl] at this
    have g1 : ∀ e ∈ es1.toList, Gd P w e := fun e he => (List.mem_cons.mp (pc.mem_iff.mp he)).elim (fun z => z ▸ ⟨k, tk, rfl, rfl⟩) (g e)
    have nd1 : (keysE es1).Nodup := pk.nodup_iff.mpr (List.nodup_cons.mpr ⟨nk, nd⟩)
    have m1 : ∀ i, (S i || decide (i = k)) = true ↔ i ∈ keysE es1 := fun i => by
      rw [Bool.or_eq_true, decide_eq_true_eq, hm i, pk.mem_iff, List.mem_cons]; exact Or.comm
    have sz : es1.size = n + 1 := by
      have := pc.length_eq
      rw [List.length_cons, Array.length_toList, Array.length_toList] at this; omega
    have hb1 : es1.size < scanBound := sz ▸ room
    have led : w.params.followText "set-order" = true ∨ t1.led = true := hl.imp id fun z => l1.trans z
    have fin : ∀ h', Heap.SameBut a s.heap h' → SetS P w h' a (fun j => S j || decide (j = k)) es1.size → Q true { s with heap := h' } := fun h' sb r => by
      have q := hQ h' sb
      rw [sk] at q; rw [sz] at r; exact q r
    refine wpAny_bind (gw _ ?_)
    by_cases hp : t1.plain = true
    · rw [if_pos hp]
      refine wpAny_bind ?_
      rw [hashByValue_scannable 8 (kvl_scan k tk)]
      refine wpAny_pure (tailS (fun b s1 Z q => ?_) ho hx hd g1 nd1 m1 hb1 ?_ ?_ ?_ fun h' sb r => ?_)
      · cases b
        · exact wpAny_pure q
        · exact wpAny_rule q
      · first | exact f1 | exact SetTable.fits_plain_off f1 | (split <;> first | exact f1 | exact SetTable.fits_plain_off f1)
      · first | exact r1 | (split <;> exact r1)
      · first | exact led | (split <;> exact led)
      · dsimp only; exact wpAny_pure (fin h' sb r)
    · rw [if_neg hp]
      refine wpAny_bind (wpAny_pure ?_)
      simp only [↓reduceIte]
      refine tailS (fun b s1 Z q => ?_) ho hx hd g1 nd1 m1 hb1 f1 r1 led fun h' sb r => ?_
      · cases b
        · exact wpAny_pure q
        · exact wpAny_rule q
      · dsimp only; exact wpAny_pure (fin h' sb r)
end
section
variable {P : Program} {w : World} {A : Around} {E : Value → Shared → Prop} {s : Shared}
theorem freshS {h : Heap} {a : Addr} (ho : h.get? a = some { cls := .type "set", dict := none, data := .set #[] 0 (.fresh 0 0 (!w.params.followText "set-order")) }) {S : Key → Bool} (e : ∀ k, S k = false) : SetS P w h a S 0 :=
  ⟨_, #[], 0, _, ho, ⟨rfl, rfl, rfl⟩, rfl, fun e he => by simp at he, List.nodup_nil, fun k => by simp [e k], by decide, rfl, rfl, List.Pairwise.nil, by
    cases q : w.params.followText "set-order"
    · exact .inr rfl
    · exact .inl rfl⟩
theorem updateS {I : Addr} {fp wr : List Addr} {G : Array GenState → Array GenState → Prop} {n : Nat} {Pv : Nat → Value → Prop} {St : Nat → Shared → Prop} {R : Result → Shared → Prop}
    (W : WalksS P w A.in1 I fp wr G n Pv St) (a : Addr) (ha : a ∉ fp) (ks : List Key) (hn : n = ks.length) (hb : ks.length + 1 < scanBound) (hv : ∀ i v, Pv i v → ∃ k t, ks[i]? = some k ∧ v = kvl k t) :
    ∀ (m i : Nat) (s : Shared), n - i = m → i ≤ n → St i s → (∃ c, c ≤ i ∧ SetS P w s.heap a (mm (ks.take i)) c) →
      (∀ s' c, Moved (a :: wr) G s s' → c ≤ n → SetS P w s'.heap a (mm ks) c → R (.ok (.ret .none)) s') →
      codeAny (model P w) A (.builtin "set.update.loop" ⟨[.ref a, .ref I], []⟩) R s := by
  have aw : a ∉ wr := fun h => ha (W.sub _ h)
  have sub : ∀ b ∈ wr, b ∈ a :: wr := fun b hb => List.mem_cons_of_mem _ hb
  intro m
  induction m with
  | zero =>
    intro i s hm hi st ⟨c, hc, hS⟩ hR
    obtain rfl : i = n := by omega
    refine codeAny_builtin F.entry_set_update_loop ?_; rw [Around.under_plainId F.plain_set_update_loop _]
    show wpAny _ A.in1 (pyNext (.ref I) >>= _) _ _ s
    refine wpAny_bind (W.done s _ _ st fun s' mv => ?_)
    rw [List.take_of_length_le (by omega)] at hS
    show wpAny _ A.in1 (ret Value.none) _ _ s'
    exact wpAny_pure (hR s' c (mv.mono sub) hc (hS.at fun o e => mv.heap a o aw e))
  | succ m ih =>
    intro i s hm hi st ⟨c, hc, hS⟩ hR
    have lt : i < n := by omega
    refine codeAny_builtin F.entry_set_update_loop ?_; rw [Around.under_plainId F.plain_set_update_loop _]
    show wpAny _ A.in1 (pyNext (.ref I) >>= _) _ _ s
    refine wpAny_bind (W.item i s _ _ lt st fun v s1 pv st1 mv => ?_)
    obtain ⟨z, t, hz, rfl⟩ := hv i v pv
    have hS1 : SetS P w s1.heap a (mm (ks.take i)) c := hS.at fun o e => mv.heap a o aw e
    show wpAny _ A.in1 (holding [kvl z t] (setAdd a (kvl z t)) >>= _) _ _ s1
    unfold setAdd
    refine wpAny_bind (wpAny_holding (wpAny_holding (wpAny_bind ((mixKind P w).pyHash (k := z) (kvl_is z t) ?_))))
    refine addS (s := { s1 with toks := s1.toks + 1 }) hS1 (by omega) fun h' sb hS2 => ?_
    have hS3 : SetS P w h' a (mm (ks.take (i + 1))) (if mm (ks.take i) z = true then c else c + 1) := hS2.congr fun j => by
      rw [List.take_add_one, hz]; exact mm_add
    have c3 : (if mm (ks.take i) z = true then c else c + 1) ≤ i + 1 := by split <;> omega
    refine wpAny_pure ⟨plainId_quiet F.plain_set_update_loop _, ih (i + 1) _ (by omega) lt (W.frame _ s1 _ _ st1 (Nat.le_succ _) fun b hb o e => ?_) ⟨_, c3, hS3⟩ fun s2 c2 mv2 hc2 hS2 => ?_⟩
    · exact (sb.2 b fun h : b = a => ha (h ▸ hb)).trans e
    · exact hR s2 c2 (Moved.trans W.gtrans ((mv.mono sub).then_heap (Nat.le_succ _) fun b o hb e => (sb.2 b fun h : b = a => hb (h ▸ List.mem_cons_self)).trans e) mv2) hc2 hS2
end
end SX
namespace SX
open PySem PySem.Spec PyProof.Rows L2
section
variable {P : Program} {w : World} {A : Around} {E : Value → Shared → Prop} {s : Shared}
abbrev s0 (w : World) : Obj := { cls := .type "set", dict := none, data := .set #[] 0 (.fresh 0 0 (!w.params.followText "set-order")) }
end
end SX
namespace SX
open PySem PySem.Spec PyProof.Rows L2
open PySem.W (EachIs alike list_sort_data dataLe)
section
variable {P : Program} {w : World} {A : Around} {E : Value → Shared → Prop} {s : Shared}
/-- sorted(set), its members all told by bo -/
theorem sorted_setG {β : Type} (enc : β → PyData) (mk : β → Tok → Value) (bo : Value → β) (hrd : ∀ h b t, Reads h (mk b t) (enc b) []) (hal : ∀ b b', alike (enc b) (enc b') = true) (hso : ∀ b, enc b ≠ .none ∧ ∀ xs, enc b ≠ .tuple xs) (hde : ∀ b, (enc b).depth = 0)
    {a : Addr} {o : Obj} {es : Array (Int × Value)} {ep : Nat} {t : SetTable} {Q : Value → Shared → Prop} (ho : s.heap.get? a = some o) (hx : o.ExactSet) (hd : o.data = .set es ep t) (hb : es.size < scanBound) (hf : t.fits es.size = true) (hr : Ris t.place.toList)
    (hl : w.params.followText "set-order" = true ∨ t.led = true) (hm : ∀ e ∈ es.toList, ∃ u, e.2 = mk (bo e.2) u) (hh : A.handled = none) (hu : A.units + 64 < cLine)
    (hQ : ∀ s' p (out : Array Value) (c : Nat) (bs : List β), (∀ b o, s.heap.get? b = some o → s'.heap.get? b = some o) → s'.gens = s.gens → s'.os = s.os → s.heap.objs.size ≤ p →
      s'.heap.get? p = some (seqObj "list" out c) → bs.Perm (es.toList.map fun e => bo e.2) → EachIs (fun v b => ∃ u, v = mk b u) out.toList (bs.mergeSort (dataLe false enc)) → Q (.ref p) s') :
    wpAny (model P w) A (call (.builtin "sorted") [.ref a]) Q E s := by
  refine Calls.call_function_entry kind_sorted plain_sorted entry_sorted (args_sorted1 _) ?_
  unfold Builtin.«sorted»
  refine wpAny_bind (m := checkCount "sorted" 1 1 _) (wpAny_pure (wpAny_bind (collect_set (A := A.in1) hh ⟨o, ho, hx.1, hd⟩ hf hb hr hl fun s1 vs k1 hz g1 o1 pm => ?_)))
  have vl : vs.length = es.size := by rw [pm.length_eq, List.length_map, Array.length_toList]
  have line : vs.length ≤ sizeLine := vl ▸ fits_of_scanBound hb
  refine wpAny_bind (wpAny_newList ?_ line)
  have hL : (s1.heap.push (seqObj "list" vs.toArray 0)).get? s1.heap.objs.size = some (seqObj "list" vs.toArray 0) := Heap.get?_push_size _ rfl
  have ev : ∀ ws : List Value, (∀ v ∈ ws, ∃ u, v = mk (bo v) u) → EachIs (fun v b => ∃ u, v = mk b u) ws (ws.map bo) := fun ws => by
    induction ws with
    | nil => exact fun _ => .nil
    | cons v r ih => exact fun q => .cons (q v List.mem_cons_self) (ih fun x hx => q x (List.mem_cons_of_mem _ hx))
  have e1 := ev vs fun v hv => by
    obtain ⟨e, he, q⟩ := List.mem_map.mp (pm.mem_iff.mp hv)
    rw [← q]
    exact hm e he
  have pb : (vs.map bo).Perm (es.toList.map fun e => bo e.2) := by
    have := pm.map bo
    rwa [List.map_map] at this
  refine wpAny_bind (wpAny_holding (list_sort_data (enc := enc) (R := fun v b => ∃ u, v = mk b u) (bs := vs.map bo) hL e1 (e1.mono fun v b ⟨u, q⟩ => ⟨[], q ▸ hrd _ b u, List.not_mem_nil⟩) (.of hal) (.others hso) (by rw [List.length_map]; exact line) (fun b _ => ?_) fun out h1 h2 => ?_))
  · rw [hde b]
    show A.in1.units + 1 + 0 < cLine
    have : A.in1.units ≤ A.units + 62 := by simp [Around.in1]
    omega
  obtain ⟨c, hc⟩ := sortedHeap_at (vs := vs) (out := out.toArray) hL
  refine wpAny_pure ⟨_, rfl, hQ _ s1.heap.objs.size out.toArray c (vs.map bo) (fun b u e => ?_) g1 o1 hz hc pb (by simpa using h2)⟩
  have q := k1 b u e
  have lt := Heap.lt_size q
  show (sortedHeap (s1.heap.push (seqObj "list" vs.toArray 0)) s1.heap.objs.size vs out.toArray).get? b = some u
  exact (sortedHeap_old (Nat.ne_of_lt lt) (by rw [size_push']; exact Nat.lt_succ_of_lt lt)).trans (Heap.get?_push_of_some _ q)
end
end SX
namespace SX
open PySem PySem.Spec PyProof.Rows L2
open PySem.W (EachIs alike list_sort_data dataLe)
theorem asc_uniq {α : Type} {r : α → α → Prop} (as : ∀ a b, r a b → ¬ r b a) (ir : ∀ a, ¬ r a a) : ∀ {l m : List α}, l.Pairwise r → m.Pairwise r → (∀ x, x ∈ l ↔ x ∈ m) → l = m
  | [], [], _, _, _ => rfl
  | [], b :: m, _, _, h => absurd ((h b).mpr List.mem_cons_self) List.not_mem_nil
  | a :: l, [], _, _, h => absurd ((h a).mp List.mem_cons_self) List.not_mem_nil
  | a :: l, b :: m, p, q, h => by
    obtain ⟨p1, p2⟩ := List.pairwise_cons.mp p
    obtain ⟨q1, q2⟩ := List.pairwise_cons.mp q
    have e : a = b := by
      rcases List.mem_cons.mp ((h a).mp List.mem_cons_self) with z | z
      · exact z
      · rcases List.mem_cons.mp ((h b).mpr List.mem_cons_self) with y | y
        · exact y.symm
        · exact absurd (p1 b y) (as _ _ (q1 a z))
    subst e
    rw [asc_uniq as ir p2 q2 fun x => ⟨fun hx => ?_, fun hx => ?_⟩]
    · rcases List.mem_cons.mp ((h x).mp (List.mem_cons_of_mem _ hx)) with z | z
      · subst z; exact absurd (p1 x hx) (ir x)
      · exact z
    · rcases List.mem_cons.mp ((h x).mpr (List.mem_cons_of_mem _ hx)) with z | z
      · subst z; exact absurd (q1 x hx) (ir x)
      · exact z
def sgl (c : Nat) : Str := ⟨#[c]⟩
/-- Python's order of texts -/
def ltT (a b : Str) : Prop := a.cps.toList < b.cps.toList
theorem ltT_sgl {c d : Nat} : ltT (sgl c) (sgl d) ↔ c < d := by
  refine ⟨fun h => ?_, fun h => List.Lex.rel h⟩
  have h : List.Lex (· < ·) [c] [d] := h
  cases h with
  | rel h => exact h
  | cons h => cases h
theorem ltT_asym (a b : Str) (h : ltT a b) : ¬ ltT b a := fun k => List.lt_irrefl _ (List.lt_trans h k)
theorem ltT_irrefl (a : Str) : ¬ ltT a a := List.lt_irrefl _
def SetSO (P : Program) (w : World) (a : Addr) (S : Key → Bool) (n : Nat) : HO := .ext fun h => SetS P w h a S n
theorem setSO_new {P : Program} {w : World} {H : Hp} {h : Heap} {a : Addr} {S : Key → Bool} {n : Nat} (R : SetS P w h a S n) : ObjOk P w H h a (SetSO P w a S n) :=
  ⟨R, (let ⟨o, _, _, _, ho, _⟩ := R; ⟨o, ho⟩), fun _ _ p k => SetS.at p k⟩
section
variable {X : Cx}
theorem vals_strs : ∀ {out : List Value} {ys : List Str}, EachIs (fun v b => ∃ u, v = Value.str b u) out ys → Vals (ys.map V.str) out
  | _, _, .nil => .nil
  | _, _, .cons h t => .cons h (vals_strs t)
end
end SX
namespace DL
open PySem PySem.Spec PyProof.Rows L2
section
variable {c : Cn} {X : Cx} {F : Fr} {W : WX} {ρ : List Sl}
theorem nt_ext {f : Heap → Prop} : noTbl (.ext f) := fun _ h => nomatch h
theorem reps_strs {G : Hp} : ∀ ys : List Str, c.reps G (ys.map V.str) (ys.map D.str)
  | [] => Reps.nil
  | y :: ys => Reps.cons (.str y) (reps_strs ys)
end
end DL
namespace DL
open PySem PySem.Spec PyProof.Rows L2
/-- fields, by name: put in the place of the one that is there, or behind all -/
def putA {β : Type} (f : Str) (v : β) : List (Str × β) → List (Str × β)
  | [] => [(f, v)]
  | (g, x) :: r => if g = f then (g, v) :: r else (g, x) :: putA f v r
section
variable {c : Cn} {X : Cx} {F : Fr} {W : WX} {ρ : List Sl} {k : Nat}
theorem putF_rep {G : Hp} {f : Str} {v : V} {d : D} (r : c.rep G v d) : ∀ {fs : List (Str × V)} {ds : List (Str × D)}, fs.map (·.1) = ds.map (·.1) → c.reps G (fs.map (·.2)) (ds.map (·.2)) → (putF f v fs).map (·.1) = (putA f d ds).map (·.1) ∧ c.reps G ((putF f v fs).map (·.2)) ((putA f d ds).map (·.2))
  | [], [], _, _ => ⟨rfl, Reps.cons r Reps.nil⟩
  | [], _ :: _, h, _ => by simp at h
  | _ :: _, [], h, _ => by simp at h
  | (g, x) :: fs, (g', y) :: ds, h, rs => by
    simp only [List.map_cons, List.cons.injEq] at h
    obtain ⟨h1, h2⟩ := h
    have e1 : g = g' := h1
    subst e1
    have rh : c.rep G x y := rs.head
    have rt : c.reps G (fs.map (·.2)) (ds.map (·.2)) := rs.tail
    unfold putF putA
    by_cases z : g = f
    · rw [if_pos z, if_pos z]
      exact ⟨by simp only [List.map_cons]; rw [h2], by simp only [List.map_cons]; exact Reps.cons r rt⟩
    · rw [if_neg z, if_neg z]
      obtain ⟨a, b⟩ := putF_rep (f := f) r h2 rt
      exact ⟨by simp only [List.map_cons]; rw [a], by simp only [List.map_cons]; exact Reps.cons rh b⟩
theorem lookup_rep {G : Hp} {f : Str} {d : D} : ∀ {fs : List (Str × V)} {ds : List (Str × D)}, fs.map (·.1) = ds.map (·.1) → c.reps G (fs.map (·.2)) (ds.map (·.2)) → ds.lookup f = some d → ∃ v, fs.lookup f = some v ∧ c.rep G v d
  | [], [], _, _, h => by simp at h
  | [], _ :: _, h, _, _ => by simp at h
  | _ :: _, [], h, _, _ => by simp at h
  | (g, x) :: fs, (g', y) :: ds, h, rs, l => by
    simp only [List.map_cons, List.cons.injEq] at h
    obtain ⟨h1, h2⟩ := h
    have e1 : g = g' := h1
    subst e1
    have rh : c.rep G x y := rs.head
    have rt : c.reps G (fs.map (·.2)) (ds.map (·.2)) := rs.tail
    simp only [List.lookup] at l ⊢
    split at l
    · cases l; exact ⟨x, rfl, rh⟩
    · exact lookup_rep h2 rt l
/-- the class cn of one's own, at C -/
def AtC (c : Cn) (cn : Str) (p : Addr → Prop) : Prop := ∃ C, c.mg cn = some (.ref C) ∧ p C
theorem AtC.get {cn : Str} {p : Addr → Prop} (h : AtC c cn p) {C : Addr} (e : c.mg cn = some (.ref C)) : p C := by
  obtain ⟨C', e', q⟩ := h
  rw [e] at e'
  cases e'
  exact q
def fldD (cns : List Str) (f : Str) : D → M D
  | .ins cn fs => if cn ∈ cns then M.some (fs.lookup f) else M.no
  | _ => M.no
theorem de_fld {e : Expr} {f : Str} {pos : Pos} {m : M D} {cns : List Str} (hK : X.K = c.K) (hc : ∀ cn ∈ cns, AtC c cn fun C => Cls c.K C ∧ NoAttr c.K C f) (he : PE X e (rdE c F W ρ m)) (hb : attributeBase e f X.env (eval e X.env) = eval e X.env := by rfl) :
    PE X (.Attribute e f pos) (rdE c F W ρ (m >>= fldD cns f)) := by
  refine pe_by (pe_fld he hb) fun σ H Q ⟨P, G, R, q⟩ => ?_
  refine ⟨P, G, R, out_mono (out_bind.mp q) (fun d P1 q1 v H1 G1 e1 R1 r1 => ?_) fun _ _ z => z⟩
  cases d with
  | ins cn fs =>
    have q2 : out (if cn ∈ cns then M.some (fs.lookup f) else M.no) P1 _ _ := q1
    by_cases hm : cn ∈ cns
    · rw [if_pos hm] at q2
      obtain ⟨d, l, q3⟩ := out_some.mp q2
      cases r1 with
      | ins ha hmc hk hr =>
        rename_i a C dx fvs
        obtain ⟨k1, k2⟩ := (hc cn hm).get hmc
        obtain ⟨v, l2, rv⟩ := lookup_rep hk ⟨by rw [List.length_map, List.length_map]; have := congrArg List.length hk; rwa [List.length_map, List.length_map] at this, fun i x y h1 h2 => by
          rw [List.getElem?_map, Option.map_eq_some_iff] at h1 h2
          obtain ⟨p, h1, rfl⟩ := h1
          obtain ⟨q, h2, rfl⟩ := h2
          exact hr i p q h1 h2⟩ l
        exact ⟨a, C, dx, fvs, v, rfl, R1.post.le _ _ ha, hK ▸ k1, hK ▸ k2, l2, q3 v H1 G1 e1 R1 rv⟩
    · rw [if_neg hm] at q2; exact q2.elim
  | _ => exact q1.elim
theorem Rel.upd_own {P : Pot} {σ : L2.St} {H G : Hp} {i : Nat} {a : Addr} {k k' : Cel} {o : HO} (R : Rel c F ρ P σ H G) (hi : ρ[i]? = some (.o k)) (ha : σ[i]? = some (some (.ref a))) (hk : CelOk c G a o k') : Rel c F (ρ.set i (.o k')) P σ (upd H a o) G := by
  have hlt : i < ρ.length := (List.getElem?_eq_some_iff.mp hi).1
  obtain ⟨a', e, ⟨u, hu, hk0⟩, g, h, n⟩ := R.sl i _ _ hi ha
  cases e
  have nt : ∀ u, H a = some u → (∀ ps, u ≠ .tbl ps) ∧ ∀ φ, u ≠ .ext φ := fun v e => by
    rw [hu] at e; cases e
    cases u <;> cases k <;> first | exact hk0.elim | exact ⟨nofun, nofun⟩
  have R1 : Rel c F (ρ.set i .un) P σ (upd H a o) G := by
    have R0 : Rel c F (ρ.set i .un) P σ H G := by
      have := R.un (i := i) (x := some (.ref a))
      have e2 : σ.set i (some (V.ref a)) = σ := by
        apply List.ext_getElem?
        intro j
        rw [List.getElem?_set]
        split
        · rename_i z; subst z
          split
          · exact ha.symm
          · rename_i hl; exact absurd (by rw [R.len]; exact hlt) hl
        · rfl
      rwa [e2] at this
    refine R0.at g h n nt fun j kk hj hs => ?_
    by_cases z : i = j
    · subst z; rw [List.getElem?_set] at hj; simp at hj
    · rw [List.getElem?_set_ne z] at hj
      exact z (R.ap i j k kk a hi hj ha hs)
  refine ⟨R1.post, by simpa using R.len, fun j s x h1 h2 => ?_, fun j j' kk kk' b h1 h2 h3 h4 => ?_⟩
  · by_cases z : i = j
    · subst z
      rw [List.getElem?_set, if_pos rfl, if_pos hlt] at h1
      cases h1
      rw [ha] at h2; cases h2
      exact ⟨a, rfl, ⟨o, upd_same, hk⟩, g, h, n⟩
    · rw [List.getElem?_set_ne z] at h1
      exact R1.sl j s x (by rw [List.getElem?_set_ne z]; exact h1) h2
  · have back : ∀ {m : Nat} {kk : Cel}, (ρ.set i (.o k'))[m]? = some (.o kk) → ∃ k2, ρ[m]? = some (.o k2) := fun {m kk} h => by
      by_cases z : i = m
      · subst z; exact ⟨k, hi⟩
      · rw [List.getElem?_set_ne z] at h; exact ⟨kk, h⟩
    obtain ⟨k1, b1⟩ := back h1
    obtain ⟨k2, b2⟩ := back h2
    exact R.ap j j' k1 k2 b b1 b2 h3 h4
theorem ds_fld {i : Nat} {x f : Str} {p p2 pos : Pos} {e : Expr} {cn : Str} {sf : Addr} {fs : List (Str × D)} {me : M D} (hi : ρ[i]? = some (.o (.i sf cn fs))) (hK : X.K = c.K) (hc : AtC c cn fun C => Cls c.K C ∧ NoAttr c.K C f) (hn : fs.length < 900) (hx : PE X (.Name x p) (tVar i)) (he : PE X e (rdE c F W ρ me))
    (hs : swapsWith e (some (.Attribute (.Name x p) f p2)) pos.line X.env = pure false := by rfl) :
    PS X (.Assign [.Attribute (.Name x p) f p2] e pos) (rdS c F W ρ (fun d => ρ.set i (.o (.i sf cn (putA f d fs)))) (me >>= fun d => Pure.pure (.nx d))) := by
  refine ps_by (ps_fld hx he hs) fun B σ H ⟨P, G, R, q⟩ => ?_
  refine ⟨P, G, R, out_mono (out_bind.mp q) (fun d P1 q1 v H1 G1 e1 R1 r1 => ?_) fun _ _ z => exS.w z⟩
  have hl : i < σ.length := by rw [R1.len]; exact (List.getElem?_eq_some_iff.mp hi).1
  obtain ⟨a, ea, ⟨o, ho, hk⟩, g, h, n⟩ := R1.sl i _ _ hi (List.getElem?_eq_getElem hl)
  have hat : σ[i]? = some (some (V.ref a)) := by rw [List.getElem?_eq_getElem hl, ea]
  cases o with
  | ins C dx fvs =>
    obtain ⟨k0, k1, k2, k3⟩ := hk
    obtain ⟨c1, c2⟩ := hc.get k1
    obtain ⟨z1, z2⟩ := putF_rep (f := f) r1 k2 k3
    have len : fvs.length < 1000 := by
      have := congrArg List.length k2
      rw [List.length_map, List.length_map] at this
      omega
    have q2 : ∀ σ' H' G', Ext G G' → Rel c F (ρ.set i (.o (.i sf cn (putA f d fs)))) P1 σ' H' G' → B.nx σ' H' := q1
    refine ⟨.ref a, hat, a, C, dx, fvs, rfl, ho, hK ▸ c1, hK ▸ c2, len, q2 σ _ G1 e1 (R1.upd_own hi hat ⟨k0, k1, z1, z2⟩)⟩
  | _ => exact hk.elim
/-- what __init__ does, told by data: what the new instance keeps -/
def spI (c : Cn) (cn : Str) (mf : List Ar → M (List (Str × D))) : Sp := fun vs H Q E => ∃ (x dx C : Addr) (H1 G : Hp) (ap : Option Addr) (P : Pot) (as : List Ar) (ws : List V),
  vs = .ref x :: ws ∧ H = upd (upd H1 dx (.own x)) x (.ins C dx []) ∧ c.mg cn = some (.ref C) ∧ H1 x = none ∧ H1 dx = none ∧ dx ≠ x ∧ Post c ap G H1 P G H1 ∧ ArsOk c ⟨G, H1, ap⟩ G ws as ∧
  out (mf as) P (fun fs P' => ∀ H' G' dx2 fvs, Post c ap G H1 P' G' H' → H' x = some (.ins C dx2 fvs) → fvs.map (·.1) = fs.map (·.1) → c.reps G' (fvs.map (·.2)) (fs.map (·.2)) → G' x = none → Q .non H') (fun e P' => ∀ cl dd H' G', Post c ap G H1 P' G' H' → ExOk c H' G' e cl dd → E cl dd H')
theorem Post.more {ap : Option Addr} {G H1 H : Hp} {P : Pot} {p : Addr} {o : HO} (h : Post c ap G H1 P G H) (hp : H p = none) : Post c ap G H1 P G (upd H p o) := by
  have ne : ∀ b u, H b = some u → b ≠ p := fun b u e z => by rw [z, hp] at e; cases e
  refine ⟨h.ext, fun b u e => ?_, fun b u e n t => ?_, h.new, h.pot.ext (Ext.refl _) (fun a e => ?_) (fun a e => ?_), tabs_upd h.tab (fun u e => ?_), h.nt⟩
  · rw [upd_ne (ne b u (h.le b u e))]; exact h.le b u e
  · rw [upd_ne (ne b u (h.fr b u e n t))]; exact h.fr b u e n t
  · have z := h.pot
    rw [e] at z
    cases P with
    | none => exact z.elim
    | some ds => obtain ⟨vs, z, _⟩ := z; exact upd_ne (ne a _ z)
  · have z := h.pot
    rw [e] at z
    cases P with
    | none => exact z.elim
    | some ds => obtain ⟨_, _, _, z⟩ := z; exact z
  · rw [hp] at e; cases e
/-- the slots at the start of __init__ -/
def slotsI (me : Addr) (cn : Str) (as : List Ar) (n : Nat) : List Sl := .o (.i me cn []) :: slots as (n - 1)
theorem rel_startI {G H1 : Hp} {ap : Option Addr} {P : Pot} {ws : List V} {as : List Ar} {x0 : Str} {N : List Str} {x dx C : Addr} {cn : Str} (p : Post c ap G H1 P G H1) (r : ArsOk c ⟨G, H1, ap⟩ G ws as) (hC : c.mg cn = some (.ref C)) (hx : H1 x = none) (hd : H1 dx = none) (hne : dx ≠ x) :
    Rel c ⟨G, H1, ap⟩ (slotsI x cn as (x0 :: N).length) P (L2.start (x0 :: N) (.ref x :: ws)) (upd (upd H1 dx (.own x)) x (.ins C dx [])) G := by
  have R0 := rel_start (N := N) p r
  have p1 : Post c ap G H1 P G (upd H1 dx (.own x)) := p.more hd
  have hx1 : upd H1 dx (.own x) x = none := by rw [upd_ne (fun e => hne e.symm)]; exact hx
  have p2 := p1.more (o := .ins C dx []) hx1
  have nop : ∀ (i : Nat) k, (slots as N.length)[i]? ≠ some (.o k) := fun i k e => by
    unfold slots at e
    by_cases hi : i < (as.map arS).length
    · rw [List.getElem?_append_left hi, List.getElem?_map] at e
      cases q : as[i]? with
      | none => rw [q] at e; cases e
      | some a => rw [q] at e; cases a <;> cases e
    · rw [List.getElem?_append_right (Nat.le_of_not_lt hi), List.getElem?_replicate] at e
      split at e <;> cases e
  have es : L2.start (x0 :: N) (.ref x :: ws) = some (.ref x) :: L2.start N ws := by
    unfold L2.start
    simp
  rw [es]
  refine ⟨p2, by unfold slotsI; simpa using R0.len, fun i s v h1 h2 => ?_, fun i j k k' u h1 h2 _ _ => ?_⟩
  · cases i with
    | zero =>
      cases h1; cases h2
      refine ⟨x, rfl, ⟨_, upd_same, rfl, hC, rfl, Reps.nil⟩, p.g_none hx, .of hx, fun z => ?_⟩
      have z2 := p.pot
      have z : some x = ap := z
      rw [← z] at z2
      cases P with
      | none => exact z2.elim
      | some ds => obtain ⟨vs, z2, _⟩ := z2; rw [hx] at z2; cases z2
    | succ i =>
      have h1 : (slots as N.length)[i]? = some s := by simpa [slotsI] using h1
      have h2 : (L2.start N ws)[i]? = some v := by simpa using h2
      have z := R0.sl i s v h1 h2
      cases s with
      | un => exact True.intro
      | v d => exact z
      | p => exact z
      | o k => exact absurd h1 (nop i k)
  · have h0 : ∀ {m : Nat} {kk : Cel}, (slotsI x cn as (x0 :: N).length)[m]? = some (.o kk) → m = 0 := fun {m kk} h => by
      cases m with
      | zero => rfl
      | succ m => exact absurd (by simpa [slotsI] using h) (nop m kk)
    rw [h0 h1, h0 h2]
end
section
variable {P : Program} {w : World} {K : PySem.W.Frag} {mg : Str → Option Value} {base : Heap} {c : Cn}
theorem fnI_of {x qual x0 cn : Str} {st : Stmt} {f : Addr} {fd : FuncData} {N ps : List Str} {k : Nat} {mf : List Ar → M (List (Str × D))} (Fn : Fun K x qual st f fd) (hK : c.K = K) (hm : c.mg = mg) (S : FnScope (x0 :: N) ps (defScope st)) (len : ∀ as P ok ex, out (mf as) P ok ex → as.length + 1 = ps.length)
    (hbody : ∀ (cd : Value) (A : Around) (fr : List Env) (s : Shared) (H0 H1 G0 : Hp) (ap : Option Addr) (E : XK) (as : List Ar) (P0 : Pot) (ok : List (Str × D) → Pot → Prop) (ex : Ex → Pot → Prop), out (mf as) P0 ok ex → BodyX c (bX P w K mg base (x0 :: N) qual st f cd A fr s H0 E) k (fun cl dd _ H => E cl dd H) →
      ∃ (α : Type) (En : Addr → α → List Sl) (fsOf : α → List (Str × D)) (mb : M (Fl α)), (∀ me a, (En me a)[0]? = some (.o (.i me cn (fsOf a)))) ∧ (∀ me, PSs (bX P w K mg base (x0 :: N) qual st f cd A fr s H0 E) (defBody st) (rdS c ⟨G0, H1, ap⟩ (fun cl dd _ H => E cl dd H) (slotsI me cn as (x0 :: N).length) (En me) mb)) ∧
        mf as = mb >>= fun fl => match fl with | .nx a => Pure.pure (fsOf a) | _ => M.no) :
    FnG P w K mg base (k + 1) f fd ps (spI c cn mf) := by
  refine fn_core Fn hK hm S (fun vs H Q E ⟨a, dx, C, H1, G, ap, P0, as, ws, e1, _, _, _, _, _, _, r, q⟩ => by rw [e1, List.length_cons, ArsOk.length r]; exact len _ _ _ _ q) fun cd A fr s H vs Q E bx ⟨a, dx, C, H1, G, ap, P0, as, ws, e1, e2, hC, hx, hd, hne, p0, ra, q0⟩ => ?_
  obtain ⟨α, En, fsOf, mb, hEn, hps, em⟩ := hbody cd A fr s H H1 G ap E as P0 _ _ q0 bx
  rw [em] at q0
  subst e1
  have R0 := rel_startI (x0 := x0) (N := N) p0 ra hC hx hd hne
  rw [← e2] at R0
  refine ⟨_, hps a, P0, G, R0, out_mono (out_bind.mp q0) (fun fl P' z => ?_) fun e P' z cl dd H' G' ρ' σ' _ R' k' => z cl dd H' G' R'.post k'⟩
  cases fl with
  | nx b =>
    intro σ' H' G' _ R'
    have z : ∀ H' G' dx2 fvs, Post c ap G H1 P' G' H' → H' a = some (.ins C dx2 fvs) → fvs.map (·.1) = (fsOf b).map (·.1) → c.reps G' (fvs.map (·.2)) ((fsOf b).map (·.2)) → G' a = none → Q .non H' := z
    have hi := hEn a b
    have hl : 0 < σ'.length := by rw [R'.len]; exact (List.getElem?_eq_some_iff.mp hi).1
    obtain ⟨a', ea, ⟨o, ho, hk⟩, g, _, _⟩ := R'.sl 0 _ _ hi (List.getElem?_eq_getElem hl)
    cases o with
    | ins C' dx' fvs =>
      obtain ⟨k0, k1, k2, k3⟩ := hk
      subst k0
      rw [hC] at k1
      cases k1
      exact z H' G' dx' fvs R'.post ho k2 k3 g
    | _ => exact hk.elim
  | rt d => exact z.elim
  | bk b => exact z.elim
  | ct b => exact z.elim
end
section
variable {c : Cn} {X : Cx} {F : Fr} {W : WX} {ρ : List Sl} {k : Nat}
theorem run_makeG {f C : Addr} {fd : FuncData} {ps : List Str} {sp : Sp} {pins : List (Addr × Obj)} {s : Shared} {σ : L2.St} {H : Hp} {Q : VK} {us : List Value} {vs : List V} (M : Mk X.K C f) (ga : GA X.A) (rm : Room (k + 1) X.A) (tk : Takes X W)
    (fn : FnG X.prog X.w X.K X.mg X.base k f fd ps sp) (hb : Binds X.K fd ps []) (I : Inv X pins σ H s) (r : Vals vs us)
    (h : ∀ x dx, H x = none → H dx = none → dx ≠ x → sp (.ref x :: vs) (upd (upd H dx (.own x)) x (.ins C dx [])) (fun v H2 => v = .non ∧ Q (.ref x) H2) (WE W σ)) :
    wpAny (model X.prog X.w) X.A (call (.ref C) us) (EP X pins σ Q) X.xe s := by
  have hq := h (s.heap.objs.size + 1) s.heap.objs.size (I.hok.fresh (Nat.le_succ _)) (I.hok.fresh (Nat.le_refl _)) (Nat.ne_of_lt (Nat.lt_succ_self _))
  have J := Inv.made (C := C) I
  have r2 : Vals (V.ref (s.heap.objs.size + 1) :: vs) (Value.ref (s.heap.objs.size + 1) :: us) := .cons rfl r
  have hl : (Value.ref (s.heap.objs.size + 1) :: us).length = ps.length := r2.length.symm.trans (fn.ln _ _ _ _ hq)
  have b := hb _ (Value.ref (s.heap.objs.size + 1) :: us) J.kIn (by simpa using hl)
  rw [List.append_nil] at b
  refine wpAny_call (make_map (f := f) I.kIn M.makes M.init (beq_iff_eq.mp M.fn) (codeAny_mono (fn.go _ X.stack _ _ _ _ ⟨Value.ref (s.heap.objs.size + 1) :: us, []⟩ _ _ (by exact ga) (rm.make C us []) (J.env0.make C us []) b r2 hq) fun res s2 z => ?_))
  match res, z with
  | .error e, z => exact passAt tk σ pins _ _ e s2 J z
  | .ok (.ret u), z =>
    obtain ⟨v, H', I3, rv, ev, q3⟩ := J.after z
    subst ev
    exact ⟨rv, ⟨V.ref (s.heap.objs.size + 1), H', I3, rfl, q3⟩⟩
  | .ok .next, z => exact z.elim
  | .ok .brk, z => exact z.elim
  | .ok .cont, z => exact z.elim
theorem de_make {f : Addr} {fd : FuncData} {cn : Str} {mf : List Ar → M (List (Str × D))} {ms : M (List Ar)} {x : Str} {p pos : Pos} {e : Expr} {es : List Expr} {ps : List Str} (Cc : Ctx c X (k + 1)) (tk : Takes X W)
    (hM : AtC c cn fun C => Mk c.K C f) (fn : FnG X.prog X.w X.K X.mg X.base k f fd ps (spI c cn mf)) (hg : Gl X x) (hx : x = cn) (hb : Binds c.K fd ps [])
    (ha : PA X (e :: es) (rdA c F W ρ ms)) (hdb : (x == ("__debug__" : Str)) = false := by decide) (he : starEach (e :: es) X.env = (false, eval e X.env) :: starEach es X.env := by rfl) (hpl : (backTo pos (starEach es X.env)).any (·.1) = false := by rfl) :
    PE X (.Call (.Name x p) (e :: es) [] pos) (rdE c F W ρ (ms >>= fun as => mf as >>= fun fs => Pure.pure (.ins cn fs))) := by
  subst hx
  obtain ⟨C, hC, M0⟩ := hM
  have M : Mk X.K C f := by rw [Cc.K]; exact M0
  have hb' : Binds X.K fd ps [] := by rw [Cc.K]; exact hb
  refine ⟨fun pins s σ H Q I ⟨P, G, R, q⟩ => ?_⟩
  have hm : X.mg x = some (.ref C) := by rw [Cc.mg]; exact hC
  refine wpAny_Call_Name_kw (ld_glob I hg hm ?_ hdb)
  have step := ha.run pos pins s σ H (fun vs H1 => ∃ P1 G1 as, Ext G G1 ∧ Rel c F ρ P1 σ H1 G1 ∧ ArsOk c F G1 vs as ∧ out (mf as >>= fun fs => Pure.pure (D.ins x fs)) P1 (fun d P' => ∀ v H' G', Ext G1 G' → Rel c F ρ P' σ H' G' → c.rep G' v d → Q v H') (exW c F W P1 G1 σ)) I
    ⟨P, G, R, out_mono (out_bind.mp q) (fun as P1 q1 vs H1 G1 e1 R1 r1 => ⟨P1, G1, as, e1, R1, r1, out_mono q1 (fun d P2 q2 v H2 G2 e2 R2 r2 => q2 v H2 G2 (e1.trans e2) R2 r2) fun _ _ z => exW_le e1 z⟩) fun _ _ z => z⟩
  refine PySem.W.callWith_K (h₀ := X.base) I.ok.mod.kin M.kp (thn step fun us s1 ⟨vs, H1, I1, rv, P1, G1, as, e1, R1, r1, q1⟩ => ⟨I1.kIn, ?_⟩) he hpl
  refine run_makeG M Cc.ga Cc.rm tk fn hb' I1 rv fun a dx ha hd hne => ?_
  refine ⟨a, dx, C, H1, G1, F.ap, P1, as, vs, rfl, rfl, hC, ha, hd, hne, R1.post.refl', ArsOk.fr (F := F) (F' := ⟨G1, H1, F.ap⟩) rfl r1, out_mono (out_bind.mp q1) (fun fs P' z H' G' dx2 fvs po hat hk hr hg' => ⟨rfl, ?_⟩) fun e P' z cl dd H' G' po k' => z cl dd H' G' ρ po.ext (R1.after po) k'⟩
  have R2 := R1.after po
  obtain ⟨R3, e3⟩ := R2.freeze hat nt_ins (R1.post.h0 ha) (R1.ne_ap ha) (R1.own_at ha) hg'
  have z : ∀ v H' G', Ext G1 G' → Rel c F ρ P' σ H' G' → c.rep G' v (.ins x fs) → Q v H' := z
  refine z (.ref a) H' _ (po.ext.trans e3) R3 (.ins upd_same hC hk fun i p q h1 h2 => ?_)
  have h1' : (fvs.map (·.2))[i]? = some p.2 := by rw [List.getElem?_map, h1]; rfl
  have h2' : (fs.map (·.2))[i]? = some q.2 := by rw [List.getElem?_map, h2]; rfl
  exact (hr.2 i _ _ h1' h2').mono e3
structure PrpC (c : Cn) (X : Cx) (k : Nat) (cn f : Str) (g : Addr) (fd : FuncData) (ps : List Str) (mf : List Ar → M D) : Prop where
  at_ : AtC c cn fun C => Cls c.K C ∧ ∃ p, PropOf c.K C f p g
  fn : FnG X.prog X.w X.K X.mg X.base k g fd ps (spD c mf)
  bi : Binds c.K fd ps []
def insP (cn : Str) : D → M Unit
  | .ins n _ => if n = cn then Pure.pure () else M.no
  | _ => M.no
theorem insP_out {cn : Str} {d : D} {P : Pot} {ok : Unit → Pot → Prop} {ex : Ex → Pot → Prop} (h : out (insP cn d) P ok ex) : ∃ fs, d = .ins cn fs ∧ ok () P := by
  cases d with
  | ins n fs =>
    have h2 : out (if n = cn then Pure.pure () else M.no) P ok ex := h
    by_cases z : n = cn
    · rw [if_pos z] at h2
      exact ⟨fs, by rw [z], h2⟩
    · rw [if_neg z] at h2; exact h2.elim
  | _ => exact h.elim
theorem getpropG {j : Nat} {p g a dx C : Addr} {fs : List (Str × V)} {f : Str} {fd : FuncData} {ps : List Str} {sp : Sp} {σ : L2.St} {pins : List (Addr × Obj)} {H : Hp} {s : Shared} {Q : VK} {b : Bool} {E' : Value → Shared → Prop} (I : Inv X pins σ H s) (ea : H a = some (.ins C dx fs)) (cl : Cls X.K C) (hp : PropOf X.K C f p g)
    (ga : GA X.A) (rm : Room (j + 1) X.A) (fn : FnG X.prog X.w X.K X.mg X.base j g fd ps sp) (hb : Binds X.K fd ps []) (h : sp [.ref a] H Q fun _ _ _ => False) :
    wpAny (model X.prog X.w) X.A (getAttr (.ref a) f b) (EP X pins σ Q) E' s := by
  obtain ⟨mA, O, _, _, _, _⟩ := ins_get I.hok ea
  obtain ⟨od, J, _⟩ := O.look
  obtain ⟨rest, hrec⟩ := hp.rec_
  have I1 := I.tok (s.toks + 1)
  have hl : [Value.ref a].length = ps.length := fn.ln _ _ _ _ h
  have bb := hb { s with toks := s.toks + 1 } [.ref a] I1.kIn (by simpa using hl)
  rw [List.append_nil] at bb
  have hc : (PySem.W.clsIn X.K C).isSome = true := by
    obtain ⟨cd, hc, _⟩ := PySem.W.any_some cl.hd
    rw [hc]; rfl
  refine PySem.W.get_bind I.kIn J (PySem.W.plainGet_of (cl.get f)).1 (PySem.W.findObj_data hc hp.at_ hp.get hp.tak) (PySem.W.plainGet_of (cl.get f)).2 (wpAny_call (PySem.W.prop_get (s := { s with toks := s.toks + 1 }) I.kIn hrec ?_))
  refine codeAny_mono (fn.go X.A.in1 X.stack { s with toks := s.toks + 1 } H [.ref a] [.ref a] ⟨[.ref a], []⟩ Q _ (by exact ga) rm.in1 I1.env0.in1 bb (.cons rfl .nil) h) fun r s' hq => ?_
  match r, hq with
  | .error e, hq =>
    obtain ⟨_, _, _, _, _, _, _, _, _, _, _, _, z⟩ := hq
    exact z.elim
  | .ok (.ret u), hq =>
    obtain ⟨v, H', I3, rv, q3⟩ := I1.after hq
    show wpAny _ _ (handedOut u) _ _ _
    rw [PySem.W.handedOut_of (handed_of rv)]
    exact wpAny_pure ⟨v, H', I3, rv, q3⟩
  | .ok .next, hq => exact hq.elim
  | .ok .brk, hq => exact hq.elim
  | .ok .cont, hq => exact hq.elim
theorem de_prop {j : Nat} {g : Addr} {fd : FuncData} {cn f : Str} {mf : List Ar → M D} {mo : M D} {pos : Pos} {o : Expr} {ps : List Str} (Cc : Ctx c X k) (hj : j + 1 ≤ k) (hM : PrpC c X j cn f g fd ps mf) (ho : PE X o (rdE c F W ρ mo)) (hab : attributeBase o f X.env (eval o X.env) = eval o X.env := by rfl) :
    PE X (.Attribute o f pos) (rdE c F W ρ (mo >>= fun d => insP cn d >>= fun _ => noEx (mf [.v d]))) := by
  refine ⟨fun pins s σ H Q I ⟨P, G, R, q⟩ => ?_⟩
  have so := ho.run pins s σ H (fun x H1 => ∃ P1 G1 fs, Ext G G1 ∧ Rel c F ρ P1 σ H1 G1 ∧ c.rep G1 x (.ins cn fs) ∧ out (noEx (mf [.v (.ins cn fs)])) P1 (fun d P' => ∀ v H' G', Ext G1 G' → Rel c F ρ P' σ H' G' → c.rep G' v d → Q v H') (exW c F W P1 G1 σ)) I
    ⟨P, G, R, out_mono (out_bind.mp q) (fun d P1 q1 v H1 G1 e1 R1 r1 => by
      obtain ⟨fs, rfl, q2⟩ := insP_out (out_bind.mp q1)
      exact ⟨P1, G1, fs, e1, R1, r1, out_mono q2 (fun d P2 q2 v H2 G2 e2 R2 r2 => q2 v H2 G2 (e1.trans e2) R2 r2) fun _ _ z => exW_le e1 z⟩) fun _ _ z => z⟩
  refine attr_of hab (thn so fun u s1 ⟨x, H1, I1, rx, P1, G1, fs, e1, R1, r1, q1⟩ => ?_)
  cases r1 with
  | ins hg hC hk hr =>
    rename_i a C dx fvs
    obtain rfl : u = Value.ref a := rx
    obtain ⟨c1, p, c2⟩ := hM.at_.get hC
    have rr : ArsOk c F G1 [.ref a] [.v (.ins cn fs)] := ⟨.ins hg hC hk hr, True.intro⟩
    refine getpropG (p := p) (g := g) I1 (R1.post.le _ _ hg) (by rw [Cc.K]; exact c1) (by rw [Cc.K]; exact c2) Cc.ga (Cc.rm.mono hj) hM.fn (by rw [Cc.K]; exact hM.bi) ?_
    exact ⟨F.ap, G1, P1, _, R1.post.refl', ArsOk.fr (F := F) (F' := ⟨G1, H1, F.ap⟩) rfl rr, out_mono (out_noEx q1) (fun d P' z v H' G' p k => z v H' G' p.ext (R1.after p) k) fun e P' z => z.elim⟩
end
end DL
namespace DL
open PySem PySem.Spec PyProof.Rows L2
section
variable {c : Cn} {X : Cx} {F : Fr} {W : WX} {ρ : List Sl} {α β : Type}
theorem Rel.ownNew {P : Pot} {σ : L2.St} {H G : Hp} {i : Nat} {p : Addr} {vs : List V} {ds : List D} (R : Rel c F ρ P σ H G) (hp : H p = none) (r : c.reps G vs ds) : Rel c F (ρ.set i (.o (.l ds))) P (σ.set i (some (.ref p))) (upd H p (.lst vs)) G := by
  have R1 : Rel c F ρ P σ (upd H p (.lst vs)) G := R.newM hp
  have R2 := R1.un (i := i) (x := some (.ref p))
  have ow := R.own_at hp
  refine ⟨R2.post, by simpa using R2.len, fun j s x h1 h2 => ?_, fun j j' kk kk' b h1 h2 h3 h4 => ?_⟩
  · by_cases z : i = j
    · subst z
      rw [List.getElem?_set, if_pos rfl] at h1 h2
      split at h1
      · split at h2
        · cases h1; cases h2
          exact ⟨p, rfl, ⟨_, upd_same, r⟩, R.post.g_none hp, R.post.h0 hp, R.ne_ap hp⟩
        · cases h2
      · cases h1
    · rw [List.getElem?_set_ne z] at h1
      exact R2.sl j s x (by rw [List.getElem?_set_ne z]; exact h1) h2
  · by_cases z : i = j
    · by_cases z' : i = j'
      · rw [← z, ← z']
      · subst z
        rw [List.getElem?_set_ne z'] at h2 h4
        have e3 : b = p := by
          rw [List.getElem?_set, if_pos rfl] at h3
          split at h3
          · cases h3; rfl
          · cases h3
        subst e3
        exact absurd h4 (ow j' kk' h2)
    · rw [List.getElem?_set_ne z] at h1 h3
      by_cases z' : i = j'
      · subst z'
        have e4 : b = p := by
          rw [List.getElem?_set, if_pos rfl] at h4
          split at h4
          · cases h4; rfl
          · cases h4
        subst e4
        exact absurd h3 (ow j kk h1)
      · rw [List.getElem?_set_ne z'] at h2 h4
        exact R.ap j j' kk kk' b h1 h2 h3 h4
/-- x = list(..) | [..]: a list of one's own -/
theorem ds_ownCall {i : Nat} {y : Str} {py spos : Pos} {e : Expr} {te : TE} {m : M (List D)} (hN : X.N.Nodup) (hi : X.N[i]? = some y) (hx : Loc X.env.scope y) (he : PE X e te)
    (hr : ∀ σ H Q, (∃ P G, Rel c F ρ P σ H G ∧ out m P (fun ds P' => ∀ H' G' p vs, Ext G G' → Rel c F ρ P' σ H' G' → H' p = none → c.reps G' vs ds → Q (.ref p) (upd H' p (.lst vs))) (exW c F W P G σ)) → te σ H Q)
    (hs : swapsWith e (some (.Name y py)) spos.line X.env = pure false := by rfl) (hf : X.fn y = true ∨ X.env.scope.names.lookup y = some .local := by first | exact .inl rfl | exact .inr rfl | assumption) :
    PS X (.Assign [.Name y py] e spos) (rdS c F W ρ (fun ds => ρ.set i (.o (.l ds))) (m >>= fun ds => Pure.pure (.nx ds))) := by
  refine ps_by (ps_set hN hi hx he hs hf) fun B σ H ⟨P, G, R, q⟩ => ?_
  refine hr _ _ _ ⟨P, G, R, out_mono (out_bind.mp q) (fun ds P1 q1 H1 G1 p vs e1 R1 hp rs => ?_) fun _ _ z => exS.w z⟩
  have q2 : ∀ σ' H' G', Ext G G' → Rel c F (ρ.set i (.o (.l ds))) P1 σ' H' G' → B.nx σ' H' := q1
  exact q2 _ _ G1 e1 (R1.ownNew hp rs)
def itemsD : D → M (List D)
  | .lst xs => Pure.pure xs
  | .tup xs => Pure.pure xs
  | .scr ns => Pure.pure (ns.map .int)
  | _ => M.no
/-- x = list(e) -/
theorem ds_ownList {i : Nat} {y x : Str} {py spos p pos : Pos} {a : Expr} {ma : M D} (hK : X.K = c.K) (hN : X.N.Nodup) (hi : X.N[i]? = some y) (hx : Loc X.env.scope y) (hg : Gl X x) (hm : X.mg x = none) (hv : bootBuiltins x = some (.type "list")) (ha : PE X a (rdE c F W ρ ma))
    (hn : x ≠ "__name__" := by decide) (hdb : (x == ("__debug__" : Str)) = false := by decide) (he1 : starEach [a] X.env = [(false, eval a X.env)] := by rfl)
    (hs : swapsWith (.Call (.Name x p) [a] [] pos) (some (.Name y py)) spos.line X.env = pure false := by rfl) (hf : X.fn y = true ∨ X.env.scope.names.lookup y = some .local := by first | exact .inl rfl | exact .inr rfl | assumption) :
    PS X (.Assign [.Name y py] (.Call (.Name x p) [a] [] pos) spos) (rdS c F W ρ (fun ds => ρ.set i (.o (.l ds))) ((ma >>= itemsD) >>= fun ds => Pure.pure (.nx ds))) := by
  refine ds_ownCall hN hi hx (pe_callTy call_list_of hg hm hv (pa_cons ha pa_nil he1) hn hdb he1 rfl) (fun σ H Q ⟨P, G, R, q⟩ => ?_) hs hf
  refine ⟨P, G, R, out_mono (out_bind.mp q) (fun d P1 q1 v H1 G1 e1 R1 r1 => ?_) fun _ _ z => z⟩
  rw [hK]
  cases d with
  | lst xs => cases r1 with | lst h hl hr => exact ⟨_, _, rfl, .inl (SqL.of (R1.post.le _ _ h)), fun l hn => q1 H1 G1 l _ e1 R1 hn ⟨hl, hr⟩⟩
  | tup xs => cases r1 with | tup h hl hr => exact ⟨_, _, rfl, .inr (Evl.ex_t R1.post.le h), fun l hn => q1 H1 G1 l _ e1 R1 hn ⟨hl, hr⟩⟩
  | scr xs => cases r1 with | scr h => exact ⟨_, _, rfl, .inl (Evl.ex_l R1.post.le h), fun l hn => q1 H1 G1 l _ e1 R1 hn (reps_ints xs)⟩
  | _ => exact q1.elim
/-- x = [e, ..] -/
theorem ds_ownLst {i : Nat} {y : Str} {py spos pos : Pos} {es : List Expr} {ms : M (List Ar)} (hN : X.N.Nodup) (hi : X.N[i]? = some y) (hx : Loc X.env.scope y) (ha : PA X es (rdA c F W ρ ms))
    (hs : swapsWith (.List es pos) (some (.Name y py)) spos.line X.env = pure false := by rfl) (hf : X.fn y = true ∨ X.env.scope.names.lookup y = some .local := by first | exact .inl rfl | exact .inr rfl | assumption) :
    PS X (.Assign [.Name y py] (.List es pos) spos) (rdS c F W ρ (fun ds => ρ.set i (.o (.l ds))) ((ms >>= fun as => DL.vals as >>= mkN) >>= fun ds => Pure.pure (.nx ds))) := by
  refine ds_ownCall hN hi hx (pe_lst ha) (fun σ H Q ⟨P, G, R, q⟩ => ?_) hs hf
  refine ⟨P, G, R, out_mono (out_bind.mp q) (fun as P1 q1 vs H1 G1 e1 R1 r1 => ?_) fun _ _ z => z⟩
  obtain ⟨ds, rs, q2⟩ := ArsOk.reps r1 (out_bind.mp q1)
  unfold mkN at q2
  by_cases z : ds.length ≤ sizeLine
  · rw [if_pos z] at q2
    refine ⟨by rw [rs.1]; exact z, fun p hp => ?_⟩
    exact (show ∀ H' G' p vs, Ext G G' → Rel c F ρ P1 σ H' G' → H' p = none → c.reps G' vs ds → Q (.ref p) (upd H' p (.lst vs)) from q2) H1 G1 p vs e1 R1 hp rs
  · rw [if_neg z] at q2; exact q2.elim
/-- len(x), x a list of one's own -/
theorem de_lenO {i : Nat} {ds : List D} {x y : Str} {p p2 pos : Pos} (hK : X.K = c.K) (hi : ρ[i]? = some (.o (.l ds))) (hx : PE X (.Name x p2) (tVar i)) (hg : Gl X y) (hm : X.mg y = none) (hv : bootBuiltins y = some (.builtin "len"))
    (hn : y ≠ "__name__" := by decide) (hdb : (y == ("__debug__" : Str)) = false := by decide) (he1 : starEach [.Name x p2] X.env = [(false, eval (.Name x p2) X.env)] := by rfl) :
    PE X (.Call (.Name y p) [.Name x p2] [] pos) (rdE c F W ρ (Pure.pure (.int (ds.length : Nat)))) := by
  refine pe_by (pe_callB call_len hg hm hv (pa_cons hx pa_nil he1) hn hdb he1 rfl) fun σ H Q ⟨P, G, R, q⟩ => ?_
  have hl : i < σ.length := by rw [R.len]; exact (List.getElem?_eq_some_iff.mp hi).1
  obtain ⟨a, ea, ⟨o, ho, hk⟩, g, h, n⟩ := R.sl i _ _ hi (List.getElem?_eq_getElem hl)
  cases o with
  | lst vs =>
    have hk : c.reps G vs ds := hk
    refine ⟨.ref a, by rw [List.getElem?_eq_getElem hl, ea], ?_⟩
    refine ⟨.ref a, vs.length, rfl, .inl ⟨vs, SqL.of ho, rfl⟩, ?_⟩
    have q2 : ∀ v H' G', Ext G G' → Rel c F ρ P σ H' G' → c.rep G' v (.int (ds.length : Nat)) → Q v H' := q
    rw [hk.1]
    exact q2 _ H G (Ext.refl _) R (.int _)
  | _ => exact hk.elim
/-- x.append(e) -/
theorem ds_append {i : Nat} {ds : List D} {x : Str} {p apos cpos pos : Pos} {e : Expr} {me : M D} (hi : ρ[i]? = some (.o (.l ds))) (hK : X.K = c.K) (hx : PE X (.Name x p) (tVar i)) (he : PE X e (rdE c F W ρ me))
    (hbase : attributeBase (.Name x p) "append" X.env (eval (.Name x p) X.env) = eval (.Name x p) X.env := by rfl)
    (hfew : ((backTo cpos (starEach [e] X.env)).all (fun x => !x.1) && (backToKw cpos (keywordEach [] X.env)).all (fun x => x.1.isSome) && decide ([e].length + ([] : List Keyword).length + (if ([] : List Keyword).isEmpty then 0 else 1) < 30)) = true := by rfl)
    (hline : (apos.endLine == cpos.line) = true := by rfl) (hs1 : starEach [e] X.env = [(false, eval e X.env)] := by rfl) (hs : swapsWith (.Call (.Attribute (.Name x p) "append" apos) [e] [] cpos) none pos.line X.env = pure false := by rfl) :
    PS X (.Expr (.Call (.Attribute (.Name x p) "append" apos) [e] [] cpos) pos) (rdS c F W ρ (fun d => ρ.set i (.o (.l (ds ++ [d])))) (me >>= fun d => if ds.length < sizeLine then Pure.pure (.nx d) else M.no)) := by
  refine ps_by (ps_expr (pe_bm PySem.F.plainAttrs_list PySem.F.slot_list_append PySem.F.type_list_append mt_append hx (pa_cons he pa_nil hs1) hbase hfew hline hs1 rfl) hs) fun B σ H ⟨P, G, R, q⟩ => ?_
  have hl : i < σ.length := by rw [R.len]; exact (List.getElem?_eq_some_iff.mp hi).1
  obtain ⟨a, ea, ⟨o, ho, hk⟩, g, h, n⟩ := R.sl i _ _ hi (List.getElem?_eq_getElem hl)
  cases o with
  | lst vs =>
    refine ⟨.ref a, by rw [List.getElem?_eq_getElem hl, ea], .inl ⟨rfl, vs, SqL.of ho⟩, P, G, R, out_mono (out_bind.mp q) (fun d P1 q1 v H1 G1 e1 R1 r1 => ?_) fun _ _ z => exS.w z⟩
    obtain ⟨a', ea', ⟨o', ho', hk'⟩, g', h', n'⟩ := R1.sl i _ _ hi (List.getElem?_eq_getElem hl)
    rw [ea] at ea'
    cases ea'
    have hat : σ[i]? = some (some (V.ref a)) := by rw [List.getElem?_eq_getElem hl, ea]
    cases o' with
    | lst vs' =>
      have hk' : c.reps G1 vs' ds := hk'
      by_cases z : ds.length < sizeLine
      · rw [if_pos z] at q1
        have q2 : ∀ σ' H' G', Ext G G' → Rel c F (ρ.set i (.o (.l (ds ++ [d])))) P1 σ' H' G' → B.nx σ' H' := q1
        exact ⟨a, vs', v, rfl, rfl, ho', by rw [hk'.1]; exact z, q2 σ _ G1 e1 (R1.upd_own hi hat (show CelOk c G1 a (.lst (vs' ++ [v])) (.l (ds ++ [d])) from hk'.append (Reps.cons r1 Reps.nil)))⟩
      · rw [if_neg z] at q1; exact q1.elim
    | _ => exact hk'.elim
  | _ => exact hk.elim
/-- a list of one's own is let go: from here on a value -/
theorem Rel.letgo {P : Pot} {σ : L2.St} {H G : Hp} {i : Nat} {ds : List D} (R : Rel c F ρ P σ H G) (hi : ρ[i]? = some (.o (.l ds))) : ∃ G', Ext G G' ∧ Rel c F (ρ.set i (.v (.lst ds))) P σ H G' := by
  have hlt : i < ρ.length := (List.getElem?_eq_some_iff.mp hi).1
  have hl : i < σ.length := by rw [R.len]; exact hlt
  obtain ⟨a, ea, ⟨o, ho, hk⟩, g, h, n⟩ := R.sl i _ _ hi (List.getElem?_eq_getElem hl)
  have hat : σ[i]? = some (some (V.ref a)) := by rw [List.getElem?_eq_getElem hl, ea]
  cases o with
  | lst vs =>
    have hk : c.reps G vs ds := hk
    have eσ : σ.set i (some (.ref a)) = σ := by
      apply List.ext_getElem?
      intro j
      rw [List.getElem?_set]
      by_cases z : i = j
      · subst z
        rw [if_pos rfl, if_pos hl]; exact hat.symm
      · rw [if_neg z]
    have R0 := R.un (i := i) (x := some (.ref a))
    rw [eσ] at R0
    obtain ⟨R1, e1⟩ := R0.freeze ho nt_lst h n (fun j kk hj hs => by
      by_cases z : i = j
      · subst z; rw [List.getElem?_set] at hj; simp at hj
      · rw [List.getElem?_set_ne z] at hj
        exact z (R.ap i j _ kk a hi hj hat hs)) g
    refine ⟨_, e1, ?_⟩
    have R2 := R1.set (i := i) (v := .ref a) (d := .lst ds) (.lst upd_same hk.1 fun i v d a b => (hk.2 i v d a b).mono e1)
    rw [List.set_set, eσ] at R2
    exact R2
  | _ => exact hk.elim
theorem ds_letgo {ss : List Stmt} {E : α → List Sl} {i : Nat} {ds : List D} {m : M (Fl α)} (hi : ρ[i]? = some (.o (.l ds))) (h : PSs X ss (rdS c F W (ρ.set i (.v (.lst ds))) E m)) : PSs X ss (rdS c F W ρ E m) :=
  pss_by h fun B σ H ⟨P, G, R, q⟩ => by
    obtain ⟨G', e, R'⟩ := R.letgo hi
    refine ⟨P, G', R', out_mono q (fun f P' z => ?_) fun x p z => exS_le e z⟩
    cases f with
    | nx a => exact fun σ' H' G2 e2 R2 => z σ' H' G2 (e.trans e2) R2
    | bk a => exact fun σ' H' G2 e2 R2 => z σ' H' G2 (e.trans e2) R2
    | ct a => exact fun σ' H' G2 e2 R2 => z σ' H' G2 (e.trans e2) R2
    | rt d => exact fun v H' G2 ρ' σ' e2 R2 k => z v H' G2 ρ' σ' (e.trans e2) R2 k
end
end DL
namespace DL
open PySem PySem.Spec PyProof.Rows L2
def gone (H : Hp) (a : Addr) : Hp := fun b => if b = a then none else H b
theorem gone_ne {H : Hp} {a b : Addr} (h : b ≠ a) : gone H a b = H b := if_neg h
theorem gone_at {H : Hp} {a : Addr} : gone H a a = none := if_pos rfl
section
variable {c : Cn} {X : Cx} {F : Fr} {W : WX} {ρ : List Sl} {α β : Type}
theorem Rel.afterO {P P' : Pot} {σ : L2.St} {H G H' G' : Hp} {i : Nat} {a : Addr} {ws ws' : List D} {vs' : List V} (R : Rel c F ρ P σ H G) (hi : ρ[i]? = some (.o (.l ws))) (ha : σ[i]? = some (some (.ref a))) (q : Post c F.ap G (gone H a) P' G' H') (h1 : H' a = some (.lst vs')) (h2 : c.reps G' vs' ws') (h3 : G' a = none) :
    Rel c F (ρ.set i (.o (.l ws'))) P' σ H' G' := by
  have hlt : i < ρ.length := (List.getElem?_eq_some_iff.mp hi).1
  obtain ⟨a', e, ⟨u, hu, hk0⟩, g, h, n⟩ := R.sl i _ _ hi ha
  cases e
  have p := R.post
  have post : Post c F.ap F.G0 F.H0 P' G' H' := by
    refine ⟨p.ext.trans q.ext, q.le, fun b o hb hn ht => ?_, fun b hb => ?_, q.pot, q.tab, q.nt⟩
    · exact q.fr b o (by rw [gone_ne (fun z => by rw [z] at hb; exact h.no hb ht)]; exact p.fr b o hb hn ht) hn ht
    · rcases q.new b hb with z | z | z
      · rcases p.new b z with y | y | ⟨vs, y⟩
        · exact .inl y
        · exact .inr (.inl y)
        · exact .inr (.inr ⟨vs, q.ext _ _ y⟩)
      · by_cases y : b = a
        · subst y; exact absurd h3 hb
        · exact .inr (.inl (p.fre fun o e => z o (by rw [gone_ne y]; exact e)))
      · exact .inr (.inr z)
  refine ⟨post, by simpa using R.len, fun j s x k1 k2 => ?_, fun j j' kk kk' b k1 k2 k3 k4 => ?_⟩
  · by_cases z : i = j
    · subst z
      rw [List.getElem?_set, if_pos rfl, if_pos hlt] at k1
      cases k1
      rw [ha] at k2; cases k2
      exact ⟨a, rfl, ⟨_, h1, h2⟩, h3, h, n⟩
    · rw [List.getElem?_set_ne z] at k1
      have y := R.sl j s x k1 k2
      cases s with
      | un => exact True.intro
      | v d => obtain ⟨v, e, r⟩ := y; exact ⟨v, e, r.mono q.ext⟩
      | p => exact y
      | o k =>
        obtain ⟨ad, e, ⟨o, ho, hk⟩, g', h', n'⟩ := y
        subst e
        have ne : ad ≠ a := fun w => z (R.ap i j _ k a hi k1 ha (by rw [k2, w]))
        have nt : noTbl o := by
          intro ps e2; subst e2
          cases k <;> exact hk
        refine ⟨ad, rfl, ⟨o, q.fr ad o (by rw [gone_ne ne]; exact ho) n' nt, ?_⟩, ?_, h', n'⟩
        · have mono : ∀ {vs ds}, c.reps G vs ds → c.reps G' vs ds := fun h => h.mono q.ext
          cases o <;> cases k <;> first | exact hk.elim | exact mono hk | exact ⟨hk.1, mono hk.2⟩ | exact ⟨hk.1, hk.2.1, hk.2.2.1, mono hk.2.2.2⟩
        · cases w : G' ad with
          | none => rfl
          | some u =>
            rcases q.new ad (by rw [w]; simp) with y | y | ⟨vs, y⟩
            · exact absurd g' y
            · exact (y.no (show gone H a ad = some o by rw [gone_ne ne]; exact ho) nt).elim
            · have z := q.le _ _ y
              rw [q.fr ad o (by rw [gone_ne ne]; exact ho) n' nt] at z
              cases z
              exact hk.elim
  · have back : ∀ {m : Nat} {kk : Cel}, (ρ.set i (.o (.l ws')))[m]? = some (.o kk) → ∃ k2, ρ[m]? = some (.o k2) := fun {m kk} h => by
      by_cases z : i = m
      · subst z; exact ⟨_, hi⟩
      · rw [List.getElem?_set_ne z] at h; exact ⟨kk, h⟩
    obtain ⟨k1', b1⟩ := back k1
    obtain ⟨k2', b2⟩ := back k2
    exact R.ap j j' k1' k2' b b1 b2 k3 k4
/-- as an entry of its own, one list of one's own kept -/
theorem Rel.subO {P : Pot} {σ : L2.St} {H G : Hp} {i : Nat} {a : Addr} {ws : List D} (R : Rel c F ρ P σ H G) (hi : ρ[i]? = some (.o (.l ws))) (ha : σ[i]? = some (some (.ref a))) : Rel c ⟨G, gone H a, F.ap⟩ ((ρ.map unO).set i (.o (.l ws))) P σ H G := by
  have hlt : i < ρ.length := (List.getElem?_eq_some_iff.mp hi).1
  obtain ⟨a', e, ⟨u, hu, hk0⟩, g, h, n⟩ := R.sl i _ _ hi ha
  cases e
  have S := R.sub
  have no : ∀ (i : Nat) k, (ρ.map unO)[i]? ≠ some (.o k) := fun i k e => by
    rw [List.getElem?_map] at e
    cases h : ρ[i]? with
    | none => rw [h] at e; cases e
    | some s => rw [h] at e; cases s <;> cases e
  have p := R.post.refl'
  refine ⟨⟨p.ext, p.le, fun b o hb hn ht => ?_, (fun b hb => .inl hb), p.pot, p.tab, p.nt⟩, by simpa using R.len, fun j s x k1 k2 => ?_, fun j j' kk kk' b k1 k2 _ _ => ?_⟩
  · have hb : gone H a b = some o := hb
    by_cases z : b = a
    · subst z; rw [gone_at] at hb; cases hb
    · rw [gone_ne z] at hb; exact hb
  · by_cases z : i = j
    · subst z
      rw [List.getElem?_set, if_pos rfl, if_pos (by simpa using hlt)] at k1
      cases k1
      rw [ha] at k2; cases k2
      exact ⟨a, rfl, ⟨u, hu, hk0⟩, g, .of gone_at, n⟩
    · rw [List.getElem?_set_ne z] at k1
      have y := S.sl j s x k1 k2
      cases s with
      | un => exact True.intro
      | v d => exact y
      | p => exact y
      | o k => exact absurd k1 (no j k)
  · have at' : ∀ {m : Nat} {kk : Cel}, ((ρ.map unO).set i (.o (.l ws)))[m]? = some (.o kk) → m = i := fun {m kk} h => by
      by_cases z : i = m
      · exact z.symm
      · rw [List.getElem?_set_ne z] at h; exact absurd h (no m kk)
    rw [at' k1, at' k2]
/-- an expression that changes the list of one's own in slot i -/
def rdEO (c : Cn) (F : Fr) (W : WX) (ρ : List Sl) (i : Nat) (m : M (D × List D)) : TE := fun σ H Q => ∃ P G, Rel c F ρ P σ H G ∧ out m P (fun r P' => ∀ v H' G', Ext G G' → Rel c F (ρ.set i (.o (.l r.2))) P' σ H' G' → c.rep G' v r.1 → Q v H') (exW c F W P G σ)
def popD (ds : List D) : D → M (D × List D)
  | .int k => if -(2 ^ 63) ≤ k ∧ k < 2 ^ 63 then M.some ((seqIndex? k ds.length).bind fun j => (ds[j]?).map fun d => (d, ds.eraseIdx j)) else M.no
  | _ => M.no
theorem Reps.erase {G : Hp} {vs : List V} {ds : List D} (h : c.reps G vs ds) (j : Nat) : c.reps G (vs.eraseIdx j) (ds.eraseIdx j) := by
  refine ⟨by rw [List.length_eraseIdx, List.length_eraseIdx, h.1], fun i v d a b => ?_⟩
  rw [List.getElem?_eraseIdx] at a b
  by_cases z : i < j
  · rw [if_pos z] at a b; exact h.2 _ v d a b
  · rw [if_neg z] at a b; exact h.2 _ v d a b
/-- x.pop(e), x a list of one's own -/
theorem de_popO {i : Nat} {ds : List D} {x : Str} {p apos cpos : Pos} {e : Expr} {me : M D} (hi : ρ[i]? = some (.o (.l ds))) (hx : PE X (.Name x p) (tVar i)) (he : PE X e (rdE c F W ρ me))
    (hbase : attributeBase (.Name x p) "pop" X.env (eval (.Name x p) X.env) = eval (.Name x p) X.env := by rfl)
    (hfew : ((backTo cpos (starEach [e] X.env)).all (fun x => !x.1) && (backToKw cpos (keywordEach [] X.env)).all (fun x => x.1.isSome) && decide ([e].length + ([] : List Keyword).length + (if ([] : List Keyword).isEmpty then 0 else 1) < 30)) = true := by rfl)
    (hline : (apos.endLine == cpos.line) = true := by rfl) (hs1 : starEach [e] X.env = [(false, eval e X.env)] := by rfl) :
    PE X (.Call (.Attribute (.Name x p) "pop" apos) [e] [] cpos) (rdEO c F W ρ i (me >>= popD ds)) := by
  refine pe_by (pe_bm PySem.F.plainAttrs_list PySem.F.slot_list_pop PySem.F.type_list_pop mt_popAt hx (pa_cons he pa_nil hs1) hbase hfew hline hs1 rfl) fun σ H Q ⟨P, G, R, q⟩ => ?_
  have hl : i < σ.length := by rw [R.len]; exact (List.getElem?_eq_some_iff.mp hi).1
  obtain ⟨a, ea, ⟨o, ho, hk⟩, g, h, n⟩ := R.sl i _ _ hi (List.getElem?_eq_getElem hl)
  cases o with
  | lst vs =>
    refine ⟨.ref a, by rw [List.getElem?_eq_getElem hl, ea], .inl ⟨rfl, vs, SqL.of ho⟩, P, G, R, out_mono (out_bind.mp q) (fun d P1 q1 v H1 G1 e1 R1 r1 => ?_) fun _ _ z => z⟩
    obtain ⟨a', ea', ⟨o', ho', hk'⟩, g', h', n'⟩ := R1.sl i _ _ hi (List.getElem?_eq_getElem hl)
    rw [ea] at ea'
    cases ea'
    have hat : σ[i]? = some (some (V.ref a)) := by rw [List.getElem?_eq_getElem hl, ea]
    cases o' with
    | lst vs' =>
      have hk' : c.reps G1 vs' ds := hk'
      cases d with
      | int k =>
        have q2 : out (if -(2 ^ 63) ≤ k ∧ k < 2 ^ 63 then M.some ((seqIndex? k ds.length).bind fun j => (ds[j]?).map fun d => (d, ds.eraseIdx j)) else M.no) P1 _ _ := q1
        by_cases z : -(2 ^ 63) ≤ k ∧ k < 2 ^ 63
        · rw [if_pos z] at q2
          obtain ⟨r, hr, q3⟩ := out_some.mp q2
          rw [Option.bind_eq_some_iff] at hr
          obtain ⟨j, hj, hr⟩ := hr
          rw [Option.map_eq_some_iff] at hr
          obtain ⟨d, hd, rfl⟩ := hr
          obtain ⟨y, hy, ry⟩ := hk'.get hd
          have q4 : ∀ v H' G', Ext G G' → Rel c F (ρ.set i (.o (.l (ds.eraseIdx j)))) P1 σ H' G' → c.rep G' v d → Q v H' := q3
          refine ⟨a, vs', k, j, y, rfl, by rw [r1.int_of], ho', z.1, z.2, by rw [hk'.1]; exact hj, hy, q4 y _ G1 e1 (R1.upd_own hi hat (show CelOk c G1 a (.lst (vs'.eraseIdx j)) (.l (ds.eraseIdx j)) from Reps.erase hk' j)) ry⟩
        · rw [if_neg z] at q2; exact q2.elim
      | _ => exact q1.elim
    | _ => exact hk'.elim
  | _ => exact hk.elim
def compO (me : List D → D → M (D × List D)) : List D → List D → M (List D)
  | _, [] => Pure.pure []
  | ws, d :: ds => noEx (me ws d) >>= fun r => noEx (compO me r.2 ds) >>= fun ys => Pure.pure (r.1 :: ys)
theorem wipe_get {σ : L2.St} {i : Nat} : ∀ {vs : List Nat}, i ∉ vs → (wipe σ vs)[i]? = σ[i]?
  | [], _ => rfl
  | v :: vs, h => by
    show ((wipe σ vs).set v none)[i]? = _
    rw [List.getElem?_set_ne (fun e => h (by rw [e]; exact List.mem_cons_self)), wipe_get fun m => h (List.mem_cons_of_mem _ m)]
theorem wipeS_get {ρ : List Sl} {i : Nat} : ∀ {vs : List Nat}, i ∉ vs → (wipeS ρ vs)[i]? = ρ[i]?
  | [], _ => rfl
  | v :: vs, h => by
    show ((wipeS ρ vs).set v .un)[i]? = _
    rw [List.getElem?_set_ne (fun e => h (by rw [e]; exact List.mem_cons_self)), wipeS_get fun m => h (List.mem_cons_of_mem _ m)]
/-- the reading of such an element -/
abbrev rdEltO (c : Cn) (i : Nat) (t : List D → D → Option (List Sl)) (me : List D → D → M (D × List D)) : TE := fun σ H Q => ∃ F ws d ρ', t ws d = some ρ' ∧ rdEO c F W0 ρ' i (me ws d) σ H Q
theorem pe_eltO {X : Cx} {e : Expr} {i : Nat} {t : List D → D → Option (List Sl)} {me : List D → D → M (D × List D)} (h : ∀ F ws d ρ', t ws d = some ρ' → PE X e (rdEO c F W0 ρ' i (me ws d))) : PE X e (rdEltO c i t me) := ⟨fun pins s σ H Q I ⟨F, ws, d, ρ', e, q⟩ => (h F ws d ρ' e).run pins s σ H Q I q⟩
/-- what such a comprehension leaves: the list, whatever is left of the one of one's own -/
def rdLO (c : Cn) (F : Fr) (W : WX) (ρ : List Sl) (i : Nat) (m : M D) : TE := fun σ H Q => ∃ P G, Rel c F ρ P σ H G ∧ out m P (fun d P' => ∀ ws' v H' G', Ext G G' → Rel c F (ρ.set i (.o (.l ws'))) P' σ H' G' → c.rep G' v d → Q v H') (exW c F W P G σ)
theorem lc_rdO {wi : TI} {g : TG} {vs : List Nat} {i : Nat} {ws0 : List D} {mi : M (List D)} {t : List Sl → D → Option (List Sl)} {me : List D → D → M (D × List D)} (hi : ρ[i]? = some (.o (.l ws0))) (hv : i ∉ vs) (hw : ∀ σ H R, rdI c F W ρ mi σ H R → wi σ H R) (tg : Tgt c g t vs)
    (hno : ∀ ρ d ws, t ρ d = none → me ws d = M.no) (hkp : ∀ ρ d ρ', t ρ d = some ρ' → ρ'[i]? = ρ[i]?) {σ : L2.St} {H : Hp} {Q : VK} (q : rdLO c F W ρ i (mi >>= fun ds => noEx (compO me ws0 ds) >>= mkL) σ H Q) :
    tLc wi g tYes (rdEltO c i (fun ws d => t (wipeS ((ρ.map unO).set i (.o (.l ws))) vs) d) me) vs σ H Q := by
  have hlt : i < ρ.length := (List.getElem?_eq_some_iff.mp hi).1
  have ρ0 : ρ.set i (.o (.l ws0)) = ρ := by
    apply List.ext_getElem?
    intro j
    rw [List.getElem?_set]
    by_cases z : i = j
    · subst z; rw [if_pos rfl, if_pos hlt]; exact hi.symm
    · rw [if_neg z]
  obtain ⟨P, G, R, q⟩ := q
  refine hw _ _ _ ⟨P, G, R, out_mono (out_bind.mp q) (fun ds P1 q1 J H1 G1 e1 R1 go D hD => ?_) fun _ _ z => z⟩
  have ow := R1.own_at hD
  have h0 := R1.post.h0 hD
  have na := R1.ne_ap hD
  have hlσ : i < σ.length := by rw [R1.len]; exact hlt
  obtain ⟨a, ea, _⟩ := R1.sl i _ _ hi (List.getElem?_eq_getElem hlσ)
  have hat : σ[i]? = some (some (V.ref a)) := by rw [List.getElem?_eq_getElem hlσ, ea]
  have Da : D ≠ a := fun z => ow i _ hi (by rw [hat, z])
  refine ⟨fun k m Hx => m = ds.length - k ∧ k ≤ ds.length ∧ ∃ (ws : List DL.D) (acc : List V) (ad : List DL.D) (P' : Pot) (G' : Hp), Ext G1 G' ∧ Rel c F (ρ.set i (.o (.l ws))) P' σ Hx G' ∧ Hx D = some (.lst acc) ∧ G' D = none ∧ c.reps G' acc ad ∧
    out (noEx (compO me ws (ds.drop k)) >>= fun ys => mkL (ad ++ ys)) P' (fun d P' => ∀ ws' v H' G'', Ext G' G'' → Rel c F (ρ.set i (.o (.l ws'))) P' σ H' G'' → c.rep G'' v d → Q v H') (exW c F W P' G' σ),
    ⟨ds.length, by simp, Nat.zero_le _, ws0, [], [], P1, G1, Ext.refl _, by rw [ρ0]; exact R1.newM hD, upd_same, R1.post.g_none hD, Reps.nil, out_mono q1 (fun d p z ws' v H' G'' e => z ws' v H' G'' (e1.trans e)) fun _ _ z => exW_le e1 z⟩, ?_⟩
  rintro k m Hx ⟨rfl, hk, ws, acc, ad, P2, G2, e2, R2, hx, gx, ra, q2⟩
  have hiS : (ρ.set i (Sl.o (.l ws)))[i]? = some (.o (.l ws)) := by rw [List.getElem?_set, if_pos rfl, if_pos hlt]
  have eS : ((ρ.set i (Sl.o (.l ws))).map unO).set i (Sl.o (.l ws)) = (ρ.map unO).set i (Sl.o (.l ws)) := by
    apply List.ext_getElem?
    intro j
    by_cases z : i = j
    · subst z; simp
    · rw [List.getElem?_set_ne z, List.getElem?_set_ne z, List.getElem?_map, List.getElem?_map, List.getElem?_set_ne z]
  have S2 := R2.subO hiS hat
  rw [eS] at S2
  by_cases hl : k < ds.length
  · have hd : ds[k]? = some ds[k] := List.getElem?_eq_getElem hl
    obtain ⟨g1, g2⟩ := (go _ _ k P2 σ Hx G2 e2 S2).2 _ hd
    rw [List.drop_eq_getElem_cons hl] at q2
    obtain ⟨ys, p, hy, q3⟩ := out_noEx_bind q2
    refine .inr ⟨g1, fun H' => ∃ (ws : List DL.D) (acc : List V) (ad : List DL.D) (P' : Pot) (G' : Hp), Ext G1 G' ∧ Rel c F (ρ.set i (.o (.l ws))) P' σ H' G' ∧ H' D = some (.lst acc) ∧ G' D = none ∧ c.reps G' acc ad ∧
      out (noEx (compO me ws (ds.drop (k + 1))) >>= fun ys => mkL (ad ++ ys)) P' (fun d P' => ∀ ws' v H' G'', Ext G' G'' → Rel c F (ρ.set i (.o (.l ws'))) P' σ H' G'' → c.rep G'' v d → Q v H') (exW c F W P' G' σ), fun H' z => ⟨ds.length - (k + 1), by omega, rfl, hl, z⟩, fun x H3 y => ?_⟩
    obtain ⟨G3, e3, R3, r3⟩ := g2 x H3 y
    have hy' : (noEx (me ws ds[k]) >>= fun r => noEx (compO me r.2 (ds.drop (k + 1))) >>= fun ys => Pure.pure (r.1 :: ys)) P2 = .ok ys p := hy
    have o1 : out (noEx (me ws ds[k]) >>= fun r => noEx (compO me r.2 (ds.drop (k + 1))) >>= fun ys => Pure.pure (r.1 :: ys)) P2 (fun z zp => z = ys ∧ zp = p) (fun _ _ => False) := (out_eq hy').mpr ⟨rfl, rfl⟩
    obtain ⟨r, P4, hyd, o4⟩ := out_noEx_bind o1
    obtain ⟨ys', p', hys, o5⟩ := out_noEx_bind o4
    have o5' : r.1 :: ys' = ys ∧ p' = p := o5
    obtain ⟨e6, e7⟩ := o5'
    subst e6 e7
    cases ht : t (wipeS ((ρ.map unO).set i (.o (.l ws))) vs) ds[k] with
    | none =>
      rw [hno _ _ ws ht] at hyd
      cases hyd
    | some ρ' =>
      refine tg _ _ ρ' P2 _ H3 G3 x ds[k] _ (R3.wipe vs) r3 ht fun σ4 R4 w4 => ⟨w4.trans (wipe_idem vs), ?_⟩
      have hρ' : ρ'[i]? = some (.o (.l ws)) := by
        rw [hkp _ _ _ ht, wipeS_get hv, List.getElem?_set, if_pos rfl, if_pos (by simpa using hlt)]
      have h4 : σ4[i]? = some (some (V.ref a)) := by
        have z : (wipe σ4 vs)[i]? = (wipe σ vs)[i]? := by rw [w4.trans (wipe_idem vs)]
        rw [wipe_get hv, wipe_get hv] at z
        rw [z, hat]
      refine ⟨_, ws, ds[k], ρ', ht, P2, G3, R4, (out_eq hyd).mpr fun v H6 G6 e6 R6 r6 => ?_⟩
      have hlρ : i < ρ'.length := (List.getElem?_eq_some_iff.mp hρ').1
      obtain ⟨a', ea', ⟨u, hu, hk6⟩, g6a, _, _⟩ := R6.sl i _ _ (by rw [List.getElem?_set, if_pos rfl, if_pos hlρ]) h4
      cases ea'
      cases u with
      | lst vs6 =>
        have hk6 : c.reps G6 vs6 r.2 := hk6
        have A6 := R2.afterO hiS hat R6.post hu hk6 g6a
        rw [List.set_set] at A6
        have e26 : Ext G2 G6 := R6.post.ext
        have hx6 : H6 D = some (.lst acc) := R6.post.fr D _ (by show gone Hx a D = _; rw [gone_ne Da]; exact hx) na nt_lst
        have g6 : G6 D = none := by
          cases z : G6 D with
          | none => rfl
          | some u =>
            rcases R6.post.new D (by rw [z]; simp) with h | h | ⟨_, h⟩
            · exact absurd gx h
            · exact (Fre.no (H := gone Hx a) h (show gone Hx a D = some (.lst acc) by rw [gone_ne Da]; exact hx) nt_lst).elim
            · have y := R6.post.le _ _ h
              rw [hx6] at y
              cases y
        have lenq : ad.length + (ys'.length + 1) ≤ sizeLine := by
          unfold mkL at q3
          by_cases z : (ad ++ r.1 :: ys').length ≤ sizeLine
          · simpa using z
          · rw [if_neg z] at q3; exact q3.elim
        have ow6 : ∀ (j : Nat) kk, (ρ.set i (.o (.l r.2)))[j]? = some (.o kk) → σ[j]? ≠ some (some (V.ref D)) := fun j kk hj hs => by
          by_cases z : i = j
          · subst z; rw [hat] at hs; cases hs; exact Da rfl
          · rw [List.getElem?_set_ne z] at hj; exact ow j kk hj hs
        refine ⟨acc, hx6, by rw [ra.1]; omega, r.2, acc ++ [v], ad ++ [r.1], P4, G6, e2.trans e26, A6.at g6 h0 na (fun u e => by rw [hx6] at e; cases e; exact ⟨nofun, nofun⟩) ow6, upd_same, g6, (ra.mono e26).append (Reps.cons r6 Reps.nil), ?_⟩
        refine out_bind.mpr ((out_eq (noEx_ok hys)).mpr ?_)
        have ea : ad ++ [r.1] ++ ys' = ad ++ r.1 :: ys' := by simp
        rw [ea]
        exact out_mono q3 (fun d p z ws' v H' G'' e => z ws' v H' G'' (e26.trans e)) fun _ _ z => exW_le e26 z
      | _ => exact hk6.elim
  · have ei : k = ds.length := by omega
    subst ei
    refine .inl ⟨(go _ _ _ P2 σ Hx G2 e2 S2).1 rfl, ?_⟩
    rw [List.drop_eq_nil_of_le (Nat.le_refl _)] at q2
    obtain ⟨ys, p, hy, q3⟩ := out_noEx_bind q2
    cases hy
    rw [List.append_nil] at q3
    unfold mkL at q3
    have ow2 : ∀ (j : Nat) kk, (ρ.set i (.o (.l ws)))[j]? = some (.o kk) → σ[j]? ≠ some (some (V.ref D)) := fun j kk hj hs => by
      by_cases z : i = j
      · subst z; rw [hat] at hs; cases hs; exact Da rfl
      · rw [List.getElem?_set_ne z] at hj; exact ow j kk hj hs
    by_cases z : ad.length ≤ sizeLine
    · rw [if_pos z] at q3
      obtain ⟨R3, e3⟩ := R2.freeze hx nt_lst h0 na ow2 gx
      exact q3 ws (.ref D) Hx _ e3 R3 (.lst upd_same ra.1 fun i v d a b => (ra.2 i v d a b).mono e3)
    · rw [if_neg z] at q3; exact q3.elim
/-- return [.. for .. in ..], its element popping -/
theorem ds_retLcO {E : α → List Sl} {i : Nat} {ws0 : List D} {elt tg iter : Expr} {scope : Scope} {own : List (Str × Nat)} {pos spos : Pos} {g : TG} {mi : M (List D)} {t : List Sl → D → Option (List Sl)} {me : List D → D → M (D × List D)} (hi : ρ[i]? = some (.o (.l ws0))) (hv : i ∉ own.map (·.2)) (hc : X.calm = true) (hN : X.N.Nodup) (ok : BlkOk X.N X.env.scope scope own)
    (hit : PI X tg iter (rdI c F W ρ mi)) (tgt : Tgt c g t (own.map (·.2))) (hno : ∀ ρ d ws, t ρ d = none → me ws d = M.no) (hkp : ∀ ρ d ρ', t ρ d = some ρ' → ρ'[i]? = ρ[i]?)
    (hg : ∀ (s : Shared) (H : Hp) (C : Addr) (cl : List (Str × Addr)) (fp : List Addr), PG (X.blk s H scope (compEnvC scope cl C X.env) fp) tg g)
    (he : ∀ (s : Shared) (H : Hp) (C : Addr) (cl : List (Str × Addr)) (fp : List Addr), PE (X.blk s H scope (compEnvC scope cl C X.env) fp) elt (rdEltO c i (fun ws d => t (wipeS ((ρ.map unO).set i (.o (.l ws))) (own.map (·.2))) d) me)) (hs : ∀ x, foldedSetIterable iter X.env x = pure x := by intro _; rfl) :
    PS X (.Return (some (.ListComp elt [⟨tg, iter, [], 0⟩] scope pos)) spos) (rdS c F W ρ E ((mi >>= fun ds => noEx (compO me ws0 ds) >>= mkL) >>= fun d => Pure.pure (.rt d))) := by
  refine ps_by (ps_ret (pe_lc hc hN hit ok hg (fun _ _ _ _ _ => pts_nil) he hs)) fun B σ H ⟨P, G, R, q⟩ => ?_
  refine lc_rdO (W := W) hi hv (fun _ _ _ z => z) tgt hno hkp ⟨P, G, R, out_mono (out_bind.mp q) (fun d P1 q1 ws' v H1 G1 e1 R1 r1 => ?_) fun _ _ z => exS.w z⟩
  exact (show ∀ v H' G' ρ' σ', Ext G G' → Rel c F ρ' P1 σ' H' G' → c.rep G' v d → B.rt v H' from q1) v H1 G1 _ σ e1 R1 r1
end
end DL
namespace DL
open PySem PySem.Spec PyProof.Rows L2
section
variable {c : Cn} {X : Cx} {F : Fr} {W : WX} {ρ : List Sl} {k : Nat}
theorem Vals.one {v : V} {us : List Value} (r : Vals [v] us) : ∃ u, us = [u] ∧ RelV v u := by
  cases r with
  | cons h t => cases t; exact ⟨_, rfl, h⟩
end
end DL
namespace DL
open PySem PySem.Spec PyProof.Rows L2
section
variable {c : Cn} {X : Cx} {F : Fr} {W : WX} {ρ : List Sl} {k : Nat}
theorem sub_ty {K : PySem.W.Frag} {C : Addr} {n : String} (h : n ∈ ["NoneType", "bool", "int", "str", "list", "tuple", "dict"]) : PySem.W.subIn K (.type n) (.ref C) = some false := by
  have all : ∀ n ∈ ["NoneType", "bool", "int", "str", "list", "tuple", "dict"], (PySem.fastFind? n).isSome = true := by decide +kernel
  obtain ⟨m, e⟩ := Option.isSome_iff_exists.mp (all n h)
  show ((PySem.fastFind? n).map (·.mro.map Value.type)).map (fun x => x.contains (Value.ref C)) = some false
  rw [e]
  show some ((m.mro.map Value.type).contains (.ref C)) = some false
  congr 1
  cases hh : (m.mro.map Value.type).contains (Value.ref C) with
  | false => rfl
  | true =>
    rw [List.contains_iff_mem, List.mem_map] at hh
    obtain ⟨_, _, z⟩ := hh
    cases z
/-- what must be known of a class, that its instances' type is told -/
def InsTy (c : Cn) (cn : Str) : Prop := AtC c cn fun C => Cls c.K C ∧ PySem.W.findIn c.K (.ref C) "__class__" = some (some (.builtin "object.__class__")) ∧
  PySem.W.specialIn c.K (.builtin "object.__class__") "__get__" = some (some (.builtin "getset_descriptor.__get__")) ∧ PySem.W.takesIn c.K (.builtin "object.__class__") = some true ∧ PySem.W.mroIn c.K C (.type "object") = some true
end
end DL
namespace DL
open PySem PySem.Spec PyProof.Rows L2
def keyM : D → M Key
  | .int i => Pure.pure (.inl i)
  | .str x => Pure.pure (.inr x)
  | _ => M.no
def putD (kvs : List (Key × D)) (k : Key) (v : D) : List (Key × D) :=
  if (kvs.any fun kv => decide (kv.1 = k)) = true then kvs.map (fun kv => if kv.1 = k then (kv.1, v) else kv) else kvs ++ [(k, v)]
def dcF (t : D → M Bool) (ke ve : D → M D) : List D → List (Key × D) → M (List (Key × D))
  | [], acc => Pure.pure acc
  | d :: ds, acc => noEx (t d) >>= fun x => if x = true then noEx (ke d) >>= fun y => noEx (ve d) >>= fun z => keyM y >>= fun k => if acc.length < sizeLine then dcF t ke ve ds (putD acc k z) else M.no else dcF t ke ve ds acc
def dicD (kvs : List (Key × D)) : D := .dic (kvs.map fun p => (keyD p.1, p.2))
section
variable {c : Cn} {F : Fr} {W : WX} {ρ : List Sl} {X : Cx}
def RepK (c : Cn) (G : Hp) (kvs : List (Key × V)) (ds : List (Key × D)) : Prop := kvs.map (·.1) = ds.map (·.1) ∧ c.reps G (kvs.map (·.2)) (ds.map (·.2))
theorem RepK.nil {G : Hp} : RepK c G [] [] := ⟨rfl, Reps.nil⟩
theorem RepK.len {G : Hp} {kvs : List (Key × V)} {ds : List (Key × D)} (h : RepK c G kvs ds) : kvs.length = ds.length := by
  have := congrArg List.length h.1
  simpa using this
theorem RepK.mono {G G' : Hp} (e : Ext G G') {kvs : List (Key × V)} {ds : List (Key × D)} (h : RepK c G kvs ds) : RepK c G' kvs ds := ⟨h.1, h.2.mono e⟩
theorem any_keys {β γ : Type} (k : Key) : ∀ {kvs : List (Key × β)} {ds : List (Key × γ)}, kvs.map (·.1) = ds.map (·.1) → (kvs.any fun kv => decide (kv.1 = k)) = ds.any fun kv => decide (kv.1 = k)
  | [], [], _ => rfl
  | [], _ :: _, h => by simp at h
  | _ :: _, [], h => by simp at h
  | p :: r, q :: s, h => by
    simp only [List.map_cons, List.cons.injEq] at h
    rw [List.any_cons, List.any_cons, h.1, any_keys k h.2]
theorem put_map {G : Hp} {k : Key} {v : V} {d : D} (r : c.rep G v d) : ∀ {kvs : List (Key × V)} {ds : List (Key × D)}, RepK c G kvs ds → RepK c G (kvs.map fun kv => if kv.1 = k then (kv.1, v) else kv) (ds.map fun kv => if kv.1 = k then (kv.1, d) else kv)
  | [], [], _ => RepK.nil
  | [], _ :: _, h => by have := h.1; simp at this
  | _ :: _, [], h => by have := h.1; simp at this
  | p :: kvs, q :: ds, h => by
    obtain ⟨h1, h2⟩ := h
    simp only [List.map_cons, List.cons.injEq] at h1
    have ih := put_map (k := k) r (kvs := kvs) (ds := ds) ⟨h1.2, Reps.tail h2⟩
    have hd : c.rep G p.2 q.2 := Reps.head h2
    refine ⟨?_, ?_⟩
    · simp only [List.map_cons, List.cons.injEq]
      refine ⟨?_, ih.1⟩
      rw [h1.1]
      split <;> simp [h1.1]
    · simp only [List.map_cons]
      refine Reps.cons ?_ ih.2
      rw [h1.1]
      split
      · exact r
      · exact hd
theorem RepK.put {G : Hp} {k : Key} {v : V} {d : D} (r : c.rep G v d) {kvs : List (Key × V)} {ds : List (Key × D)} (h : RepK c G kvs ds) : RepK c G (putK kvs k v) (putD ds k d) := by
  unfold putK putD
  rw [any_keys k h.1]
  split
  · exact put_map r h
  · refine ⟨by simp [h.1], ?_⟩
    rw [List.map_append, List.map_append]
    exact h.2.append (Reps.cons r Reps.nil)
theorem keyM_out {y : D} {P : Pot} {ok : Key → Pot → Prop} {ex : Ex → Pot → Prop} (h : out (keyM y) P ok ex) : ∃ k, y = keyD k ∧ ok k P := by
  cases y with
  | int i => exact ⟨.inl i, rfl, h⟩
  | str x => exact ⟨.inr x, rfl, h⟩
  | _ => exact h.elim
theorem rep_key {G : Hp} {v : V} {k : Key} (r : c.rep G v (keyD k)) : v = kV k := by
  cases k with
  | inl i => exact r.int_of
  | inr x => exact r.str_of
theorem dc_rd {wi : TI} {g : TG} {tt : TT} {vs : List Nat} {mi : M (List D)} {t : List Sl → D → Option (List Sl)} {mt : D → M Bool} {mk mv : D → M D} (hw : ∀ σ H R, rdI c F W ρ mi σ H R → wi σ H R) (tg : Tgt c g t vs)
    (hno : ∀ ρ d, t ρ d = none → mt d = M.no) (htt : TestOk c tt (t (wipeS (ρ.map unO) vs)) mt) {σ : L2.St} {H : Hp} {Q : VK} (q : rdE c F W ρ (mi >>= fun ds => noEx (dcF mt mk mv ds []) >>= fun kvs => Pure.pure (dicD kvs)) σ H Q) :
    tDc wi g tt (fun σ H Q => ∃ F d ρ', t (wipeS (ρ.map unO) vs) d = some ρ' ∧ rdE c F W0 ρ' (mk d) σ H Q) (fun σ H Q => ∃ F d ρ', t (wipeS (ρ.map unO) vs) d = some ρ' ∧ rdE c F W0 ρ' (mv d) σ H Q) vs σ H Q := by
  obtain ⟨P, G, R, q⟩ := q
  refine hw _ _ _ ⟨P, G, R, out_mono (out_bind.mp q) (fun ds P1 q1 J H1 G1 e1 R1 go D hD => ?_) fun _ _ z => z⟩
  have ow := R1.own_at hD
  have h0 := R1.post.h0 hD
  have na := R1.ne_ap hD
  refine ⟨fun i m Hx => m = ds.length - i ∧ i ≤ ds.length ∧ ∃ (acc : List (Key × V)) (ad : List (Key × DL.D)) (P' : Pot) (G' : Hp), Ext G1 G' ∧ Rel c F ρ P' σ Hx G' ∧ Hx D = some (.dK acc) ∧ G' D = none ∧ RepK c G' acc ad ∧
    out (noEx (dcF mt mk mv (ds.drop i) ad) >>= fun kvs => (Pure.pure (dicD kvs) : M DL.D)) P' (fun d P' => ∀ v H' G'', Ext G' G'' → Rel c F ρ P' σ H' G'' → c.rep G'' v d → Q v H') (exW c F W P' G' σ),
    ⟨ds.length, by simp, Nat.zero_le _, [], [], P1, G1, Ext.refl _, R1.newM hD, upd_same, R1.post.g_none hD, RepK.nil, out_mono q1 (fun d p z v H' G'' e => z v H' G'' (e1.trans e)) fun _ _ z => exW_le e1 z⟩, ?_⟩
  rintro i m Hx ⟨rfl, hi, acc, ad, P2, G2, e2, R2, hx, gx, ra, q2⟩
  by_cases hl : i < ds.length
  · have hd : ds[i]? = some ds[i] := List.getElem?_eq_getElem hl
    have S2 := R2.sub
    obtain ⟨g1, g2⟩ := (go _ _ i P2 σ Hx G2 e2 S2).2 _ hd
    rw [List.drop_eq_getElem_cons hl] at q2
    obtain ⟨ys, p, hy, q3⟩ := out_noEx_bind q2
    refine .inr ⟨g1, fun H' => ∃ (acc : List (Key × V)) (ad : List (Key × DL.D)) (P' : Pot) (G' : Hp), Ext G1 G' ∧ Rel c F ρ P' σ H' G' ∧ H' D = some (.dK acc) ∧ G' D = none ∧ RepK c G' acc ad ∧
      out (noEx (dcF mt mk mv (ds.drop (i + 1)) ad) >>= fun kvs => (Pure.pure (dicD kvs) : M DL.D)) P' (fun d P' => ∀ v H' G'', Ext G' G'' → Rel c F ρ P' σ H' G'' → c.rep G'' v d → Q v H') (exW c F W P' G' σ), fun H' z => ⟨ds.length - (i + 1), by omega, rfl, hl, z⟩, fun x H3 y => ?_⟩
    obtain ⟨G3, e3, R3, r3⟩ := g2 x H3 y
    have hy' : (noEx (mt ds[i]) >>= fun x => if x = true then noEx (mk ds[i]) >>= fun y => noEx (mv ds[i]) >>= fun z => keyM y >>= fun k => if ad.length < sizeLine then dcF mt mk mv (ds.drop (i + 1)) (putD ad k z) else M.no else dcF mt mk mv (ds.drop (i + 1)) ad) P2 = .ok ys p := hy
    have o1 : out (noEx (mt ds[i]) >>= fun x => if x = true then noEx (mk ds[i]) >>= fun y => noEx (mv ds[i]) >>= fun z => keyM y >>= fun k => if ad.length < sizeLine then dcF mt mk mv (ds.drop (i + 1)) (putD ad k z) else M.no else dcF mt mk mv (ds.drop (i + 1)) ad) P2 (fun z zp => z = ys ∧ zp = p) (fun _ _ => False) := (out_eq hy').mpr ⟨rfl, rfl⟩
    obtain ⟨b, P3, hb, o2⟩ := out_noEx_bind o1
    have back : ∀ {m : M (List (Key × DL.D))} {P : Pot}, out m P (fun z zp => z = ys ∧ zp = p) (fun _ _ => False) → m P = .ok ys p := fun {m P} this => by
      unfold out at this
      cases k : m P with
      | ok a b => rw [k] at this; rw [this.1, this.2]
      | ex _ _ => rw [k] at this; exact this.elim
      | no => rw [k] at this; exact this.elim
    cases ht : t (wipeS (ρ.map unO) vs) ds[i] with
    | none =>
      rw [hno _ _ ht] at hb
      cases hb
    | some ρ' =>
      refine tg _ _ ρ' P2 _ H3 G3 x ds[i] _ (R3.wipe vs) r3 ht fun σ4 R4 w4 => ⟨w4.trans (wipe_idem vs), ?_⟩
      refine htt _ _ ρ' P2 σ4 H3 G3 _ R4 ht ((out_eq hb).mpr fun H5 G5 e5 R5 => ?_)
      have gone : ∀ {F' : Fr} {ρ2 : List Sl} {P' : Pot} {σ' : L2.St} {H' G' : Hp}, Rel c ⟨G2, Hx, F.ap⟩ ρ2 P' σ' H' G' → G' D = none := fun {F' ρ2 P' σ' H' G'} R5 => by
        cases z : G' D with
        | none => rfl
        | some u =>
          rcases R5.post.new D (by rw [z]; simp) with h | h | ⟨_, h⟩
          · exact absurd gx h
          · exact (Fre.no (H := Hx) h hx (fun _ q => nomatch q)).elim
          · have y := R5.post.le _ _ h
            rw [R5.post.fr D _ hx na nt_dK] at y
            cases y
      cases b with
      | false =>
        have hz := back (show out (dcF mt mk mv (ds.drop (i + 1)) ad) P3 (fun z zp => z = ys ∧ zp = p) (fun _ _ => False) from o2)
        have A5 := R2.after R5.post
        have e25 : Ext G2 G5 := R5.post.ext
        exact ⟨acc, ad, P3, G5, e2.trans e25, A5, R5.post.fr D _ hx na nt_dK, gone (F' := F) R5, ra.mono e25, out_bind.mpr ((out_eq (noEx_ok hz)).mpr (out_mono q3 (fun d p z v H' G'' e => z v H' G'' (e25.trans e)) fun _ _ z => exW_le e25 z))⟩
      | true =>
        obtain ⟨kd, P4, hkd, o4⟩ := out_noEx_bind (show out (noEx (mk ds[i]) >>= fun y => noEx (mv ds[i]) >>= fun z => keyM y >>= fun k => if ad.length < sizeLine then dcF mt mk mv (ds.drop (i + 1)) (putD ad k z) else M.no) P3 (fun z zp => z = ys ∧ zp = p) (fun _ _ => False) from o2)
        obtain ⟨vd, P5, hvd, o5⟩ := out_noEx_bind o4
        obtain ⟨k, ek, o6⟩ := keyM_out (out_bind.mp o5)
        have hlen : ad.length < sizeLine := by
          by_cases z : ad.length < sizeLine
          · exact z
          · rw [if_neg z] at o6; exact o6.elim
        rw [if_pos hlen] at o6
        have hz := back o6
        refine ⟨_, ds[i], ρ', ht, P3, G5, R5, (out_eq hkd).mpr fun kv H6 G6 e6 R6 r6 => ?_⟩
        refine ⟨_, ds[i], ρ', ht, P4, G6, R6, (out_eq hvd).mpr fun v H7 G7 e7 R7 r7 => ?_⟩
        have A7 := R2.after R7.post
        have e27 : Ext G2 G7 := R7.post.ext
        have hx7 := R7.post.fr D _ hx na nt_dK
        have g7 := gone (F' := F) R7
        rw [ek] at r6
        refine ⟨acc, k, rep_key r6, hx7, by rw [ra.len]; exact hlen, putK acc k v, putD ad k vd, P5, G7, e2.trans e27, A7.at g7 h0 na (fun u e => by rw [hx7] at e; cases e; exact ⟨nofun, nofun⟩) ow, upd_same, g7, (ra.mono e27).put r7, ?_⟩
        exact out_bind.mpr ((out_eq (noEx_ok hz)).mpr (out_mono q3 (fun d p z v H' G'' e => z v H' G'' (e27.trans e)) fun _ _ z => exW_le e27 z))
  · have ei : i = ds.length := by omega
    subst ei
    refine .inl ⟨(go _ _ _ P2 σ Hx G2 e2 R2.sub).1 rfl, ?_⟩
    rw [List.drop_eq_nil_of_le (Nat.le_refl _)] at q2
    obtain ⟨ys, p, hy, q3⟩ := out_noEx_bind q2
    cases hy
    obtain ⟨R3, e3⟩ := R2.freeze hx nt_dK h0 na ow gx
    have q4 : ∀ v H' G'', Ext G2 G'' → Rel c F ρ P2 σ H' G'' → c.rep G'' v (dicD ad) → Q v H' := q3
    refine q4 (.ref D) Hx _ e3 R3 (.dicK upd_same ?_ fun i kv dv h1 h2 => ?_)
    · rw [List.map_map]
      have : (List.map (fun p => keyD p.1) acc) = (acc.map (·.1)).map keyD := by rw [List.map_map]; rfl
      rw [this, ra.1, List.map_map]
      rfl
    · rw [List.getElem?_map, Option.map_eq_some_iff] at h2
      obtain ⟨q, h2, rfl⟩ := h2
      exact (ra.2.2 i kv.2 q.2 (by rw [List.getElem?_map, h1]; rfl) (by rw [List.getElem?_map, h2]; rfl)).mono e3
theorem de_dc {kx vx tg iter : Expr} {ifs : List Expr} {scope : Scope} {own : List (Str × Nat)} {pos : Pos} {g : TG} {tt : TT} {mi : M (List D)} {t : List Sl → D → Option (List Sl)} {mt : D → M Bool} {mk mv : D → M D} (hc : X.calm = true) (hN : X.N.Nodup) (ok : BlkOk X.N X.env.scope scope own)
    (hi : PI X tg iter (rdI c F W ρ mi)) (tgt : Tgt c g t (own.map (·.2))) (hno : ∀ ρ d, t ρ d = none → mt d = M.no) (htt : TestOk c tt (t (wipeS (ρ.map unO) (own.map (·.2)))) mt)
    (hg : ∀ (s : Shared) (H : Hp) (C : Addr) (cl : List (Str × Addr)) (fp : List Addr), PG (X.blk s H scope (compEnvC scope cl C X.env) fp) tg g) (ht : ∀ (s : Shared) (H : Hp) (C : Addr) (cl : List (Str × Addr)) (fp : List Addr), PTs (X.blk s H scope (compEnvC scope cl C X.env) fp) ifs tt)
    (hk : ∀ (s : Shared) (H : Hp) (C : Addr) (cl : List (Str × Addr)) (fp : List Addr), PE (X.blk s H scope (compEnvC scope cl C X.env) fp) kx (rdElt c (t (wipeS (ρ.map unO) (own.map (·.2)))) mk))
    (he : ∀ (s : Shared) (H : Hp) (C : Addr) (cl : List (Str × Addr)) (fp : List Addr), PE (X.blk s H scope (compEnvC scope cl C X.env) fp) vx (rdElt c (t (wipeS (ρ.map unO) (own.map (·.2)))) mv)) (hs : ∀ x, foldedSetIterable iter X.env x = pure x := by intro _; rfl) :
    PE X (.DictComp kx vx [⟨tg, iter, ifs, 0⟩] scope pos) (rdE c F W ρ (mi >>= fun ds => noEx (dcF mt mk mv ds []) >>= fun kvs => Pure.pure (dicD kvs))) :=
  pe_by (pe_dc hc hN hi ok hg ht hk he hs) fun σ H Q q => dc_rd (fun _ _ _ z => z) tgt hno htt q
end
end DL
namespace SX
open PySem PySem.Spec PyProof.Rows L2
open PySem.W (EachIs alike list_sort_data dataLe)
instance (a b : Str) : Decidable (ltT a b) := inferInstanceAs (Decidable (a.cps.toList < b.cps.toList))
theorem ltT_trans {a b c : Str} (h : ltT a b) (k : ltT b c) : ltT a c := List.lt_trans h k
theorem ltT_tri {a b : Str} (h : ¬ ltT a b) (k : a ≠ b) : ltT b a := by
  by_cases z : ltT b a
  · exact z
  · exact absurd (PySem.W.str_of_cps (List.le_antisymm (List.not_lt.mp z) (List.not_lt.mp h))) k
def insS (a : Str) : List Str → List Str
  | [] => [a]
  | b :: l => if ltT a b then a :: b :: l else if a = b then b :: l else b :: insS a l
theorem insS_mem {a x : Str} : ∀ {l : List Str}, x ∈ insS a l ↔ x = a ∨ x ∈ l
  | [] => by simp [insS]
  | b :: l => by
    unfold insS
    split
    · simp
    · split
      · rename_i e; subst e; simp
      · rw [List.mem_cons, insS_mem, List.mem_cons]
        constructor
        · rintro (h | h | h)
          · exact .inr (.inl h)
          · exact .inl h
          · exact .inr (.inr h)
        · rintro (h | h | h)
          · exact .inr (.inl h)
          · exact .inl h
          · exact .inr (.inr h)
theorem insS_asc {a : Str} : ∀ {l : List Str}, l.Pairwise ltT → (insS a l).Pairwise ltT
  | [], _ => by simp [insS]
  | b :: l, h => by
    obtain ⟨h1, h2⟩ := List.pairwise_cons.mp h
    unfold insS
    split
    · rename_i q
      refine List.pairwise_cons.mpr ⟨fun x hx => ?_, h⟩
      rcases List.mem_cons.mp hx with z | z
      · subst z; exact q
      · exact ltT_trans q (h1 x z)
    · rename_i q
      split
      · exact h
      · rename_i e
        refine List.pairwise_cons.mpr ⟨fun x hx => ?_, insS_asc h2⟩
        rcases insS_mem.mp hx with z | z
        · subst z; exact ltT_tri q e
        · exact h1 x z
def srtS (l : List Str) : List Str := l.foldr insS []
theorem srtS_mem {x : Str} : ∀ {l : List Str}, x ∈ srtS l ↔ x ∈ l
  | [] => Iff.rfl
  | a :: l => by
    show x ∈ insS a (srtS l) ↔ _
    rw [insS_mem, srtS_mem, List.mem_cons]
theorem srtS_asc : ∀ {l : List Str}, (srtS l).Pairwise ltT
  | [] => List.Pairwise.nil
  | a :: l => insS_asc (srtS_asc (l := l))
theorem srtS_is {l ys : List Str} (p : ys.Pairwise ltT) (h : ∀ y, y ∈ ys ↔ y ∈ l) : ys = srtS l :=
  asc_uniq ltT_asym ltT_irrefl p srtS_asc fun y => (h y).trans srtS_mem.symm
theorem srtS_self {l : List Str} (h : l.Pairwise ltT) : srtS l = l := (srtS_is h fun _ => Iff.rfl).symm
theorem srtS_length {l : List Str} : (srtS l).length ≤ l.length := by
  have one : ∀ (a : Str) (m : List Str), (insS a m).length ≤ m.length + 1 := fun a m => by
    induction m with
    | nil => exact Nat.le_refl _
    | cons b m ih =>
      unfold insS
      split
      · exact Nat.le_refl _
      · split
        · simp
        · simpa using ih
  induction l with
  | nil => exact Nat.le_refl _
  | cons a l ih => exact Nat.le_trans (one a (srtS l)) (Nat.succ_le_succ ih)
section
variable {P : Program} {w : World} {A : Around} {E : Value → Shared → Prop} {s : Shared}
set_option maxHeartbeats 8000000 in
theorem call_set_lst {l : Addr} {items : Array Value} (ks : List Key) {Q : Value → Shared → Prop} (hh : A.handled = none) (hl : s.heap.IsList l items) (hsz : items.size = ks.length) (hv : ∀ (i : Nat) (v : Value), items[i]? = some v → ∃ k t, ks[i]? = some k ∧ v = kvl k t) (hb : ks.length + 1 < scanBound)
    (h : ∀ h' tk c, SetS P w h' s.heap.objs.size (mm ks) c → c ≤ ks.length → (∀ b o, s.heap.get? b = some o → h'.get? b = some o) → Q (.ref s.heap.objs.size) { s with heap := h', toks := tk }) :
    wpAny (model P w) A (call (.type "set") [.ref l]) Q E s := by
  obtain ⟨c, tl, mro⟩ := F.called_set.mro
  have made := F.called_set.made
  have sub := F.called_set.sub
  refine wpAny_call (codeAny_of_tree ?_)
  show wpAny _ _ (callAny (.type "set") _) _ _ _
  refine wpAny_pure ⟨Code.quiet_builtin _ (by decide +kernel), codeAny_builtin F.entry_type_call ?_⟩
  rw [Around.under_plain (weight_type_call_type "set" [.ref l] []) rfl]
  have u1 := F.called_set.notType
  have u2 := F.called_set.canCreate
  have u3 := F.typeCall_set_1 (.ref l)
  repeat (any_goals (first | assumption | wp_step))

  refine codeAny_mono (code_set_led1 (.ref l) (E := E) (Q₁ := fun obj s1 => obj = .ref s.heap.objs.size ∧ s1 = { s with heap := s.heap.push (s0 w) }) ⟨rfl, rfl⟩) fun r s1 hr => ?_
  cases r with
  | error e => exact hr
  | ok fl =>
    cases fl with
    | ret obj =>
      obtain ⟨rfl, rfl⟩ := hr
      have hS : (s.heap.push (s0 w)).get? s.heap.objs.size = some (s0 w) := Heap.get?_push_size _ rfl
      have hT : Shared.TypeIs { s with heap := s.heap.push (s0 w) } (.ref s.heap.objs.size) "set" := ⟨_, hS, rfl⟩
      have v1 := F.called_set.init.lookup
      have v2 := F.called_set.init.bind (.ref s.heap.objs.size)
      repeat (any_goals (first | assumption | wp_step))

      refine codeAny_mono (codeAny_call_builtin (R := wants (fun r s2 => r = .none ∧ ∃ h' tk c, s2 = { s with heap := h', toks := tk } ∧ SetS P w h' s.heap.objs.size (mm ks) c ∧ c ≤ ks.length ∧
          (∀ b o, s.heap.get? b = some o → h'.get? b = some o)) E) F.called_set.init.plain F.entry_set_init (check_set_init_1 hT ?_)) fun r2 s2 hr2 => ?_
      · obtain ⟨ol, hol, hcl, nl, hdl⟩ := hl
        obtain ⟨ocls, odict, odata, oslots⟩ := ol
        simp only at hcl hdl
        subst hcl; subst hdl
        have hol' : (s.heap.push (s0 w)).get? l = some { cls := .type "list", dict := odict, data := .seq items nl, slots := oslots } := Heap.get?_push_of_some _ hol
        have w1 := F.sub_list_set
        have w2 := F.sub_list_frozenset
        have w3 : (Value.type "list" == Value.type "dict") = false := by decide
        have hl1 : (s.heap.push (s0 w)).IsList l items := ⟨_, hol', rfl, nl, rfl⟩
        unfold Builtin.«set.__init__» noKeywords Builtin.Frozenset.updateFrom
        generalize ePI : pyIter = PI
        wp_walk
        subst ePI
        refine wpAny_pyIter_list hl1 ?_
        refine wpAny_bind (wpAny_runValue ?_)
        have hlS : l < s.heap.objs.size := Heap.lt_size hol
        have g3 : A.in1.in1.in1.handled = none := by simp [hh]
        have z1 : (s.heap.push (s0 w)).objs.size = s.heap.objs.size + 1 := Heap.size_push ..
        have hneI : l ≠ (s.heap.push (s0 w)).objs.size := by rw [z1]; exact Nat.ne_of_lt (Nat.lt_succ_of_lt hlS)
        have nf : s.heap.objs.size ∉ [(s.heap.push (s0 w)).objs.size, l] := by
          rw [z1]; simp only [List.mem_cons, List.mem_singleton, List.not_mem_nil, or_false, not_or]
          exact ⟨Nat.ne_of_lt (Nat.lt_succ_self _), Nat.ne_of_gt hlS⟩
        refine updateS ((Walks.list g3 _ l hneI items).toS) s.heap.objs.size nf ks hsz hb hv (items.size - 0) 0 _ (by omega) (Nat.zero_le _) ⟨⟨_, Heap.get?_push_size _ rfl, rfl, rfl⟩, (hl1.push _)⟩ ?S0 ?R0
        case S0 =>
          exact ⟨0, Nat.le_refl 0, freshS (Heap.get?_push_of_some _ hS) fun k => rfl⟩
        case R0 =>
          intro s' c' mv hc' hS'
          obtain ⟨h', g2, d', tk', os'⟩ := s'
          obtain rfl : g2 = s.gens := mv.gens
          obtain rfl : d' = s.drawn := mv.drawn
          obtain rfl : os' = s.os := mv.os
          show wpAny _ _ _ _ _ _
          refine wpAny_pure ?_
          show wpAny _ _ (ret Value.none) _ _ _
          rw [hsz] at hc'
          refine wpAny_pure ⟨rfl, h', tk', c', rfl, hS', hc', fun b o e => ?_⟩
          have b0 : b < s.heap.objs.size := Heap.lt_size e
          refine mv.heap b o (fun z => ?_) (Heap.get?_push_of_some _ (Heap.get?_push_of_some _ e))
          rcases List.mem_cons.mp z with z | z
          · exact absurd z (Nat.ne_of_lt b0)
          · exact absurd ((List.mem_singleton.mp z).trans z1) (Nat.ne_of_lt (Nat.lt_succ_of_lt b0))
      · cases r2 with
        | error e => exact hr2
        | ok fl2 =>
          cases fl2 with
          | ret r =>
            obtain ⟨rfl, h', tk, c', rfl, hS', hc', hk'⟩ := hr2
            repeat (any_goals (first | assumption | wp_step))
            exact h _ _ _ hS' hc' hk'
          | _ => exact hr2.elim
    | _ => exact hr.elim
end
end SX
namespace SX
open PySem PySem.Spec PyProof.Rows L2
open PySem.W (EachIs alike list_sort_data dataLe)
theorem vals_ix : ∀ {vs : List V} {us : List Value}, Vals vs us → ∀ {i : Nat} {u : Value}, us[i]? = some u → ∃ v, vs[i]? = some v ∧ RelV v u
  | _, _, .nil, _, _, h => by simp at h
  | _, _, .cons h t, 0, u, e => by
    simp at e; subst e; exact ⟨_, rfl, h⟩
  | _, _, .cons h t, i + 1, u, e => by
    obtain ⟨v, a, b⟩ := vals_ix t (i := i) (u := u) (by simpa using e)
    exact ⟨v, by simpa using a, b⟩
def rSetL (K : PySem.W.Frag) (P : Program) (w : World) : List V → Hp → VK → Prop := fun xs H Q => ∃ (l : Addr) (ys : List Str), xs = [.ref l] ∧ SqL K H l (ys.map V.str) ∧ ys.length < 4000 ∧ ∀ p n, H p = none → Q (.ref p) (upd H p (SetSO P w p (mm (ys.map Sum.inr)) n))
def rSrtL (P : Program) (w : World) : List V → Hp → VK → Prop := fun vs H Q => ∃ (a : Addr) (ys : List Str) (n : Nat), vs = [V.ref a] ∧ ys.length < 4000 ∧ H a = some (SetSO P w a (mm (ys.map Sum.inr)) n) ∧ ∀ p, H p = none → Q (.ref p) (upd H p (.lst ((srtS ys).map V.str)))
section
variable {X : Cx}
theorem cr_setL (hc : X.calm = true) : CallR X (.type "set") (rSetL X.K X.prog X.w) := by
  intro pins s σ H xs us Q I r h
  obtain ⟨l, ys, rfl, hs, hx, q⟩ := h
  rw [Vals.ref1 r]
  obtain ⟨its, rv, hl, _⟩ := I.list hs
  have hn : H s.heap.objs.size = none := I.hok.fresh (Nat.le_refl _)
  have hz : its.length = ys.length := by have := rv.length; rw [List.length_map] at this; exact this.symm
  refine call_set_lst (P := X.prog) (w := X.w) (ys.map Sum.inr) (I.ok.hd hc) hl.isList (by rw [List.size_toArray, List.length_map, hz]) (fun i v e => ?_) (by rw [List.length_map]; show _ < 4096; omega) fun h' tk c R hcn k => ?_
  · rw [List.getElem?_toArray] at e
    obtain ⟨x, e1, e2⟩ := vals_ix rv e
    rw [List.getElem?_map, Option.map_eq_some_iff] at e1
    obtain ⟨y, e1, rfl⟩ := e1
    obtain ⟨t, rfl⟩ := (show ∃ t, v = Value.str y t from e2)
    exact ⟨.inr y, t, by rw [List.getElem?_map, e1]; rfl, rfl⟩
  · exact ⟨.ref s.heap.objs.size, _, I.laid (t' := tk) k (Nat.le_refl _) (setSO_new R), rfl, q _ c hn⟩
theorem cr_srtL (hc : X.calm = true) (hu : X.A.units + 64 < cLine) : CallR X (.builtin "sorted") (rSrtL X.prog X.w) := by
  intro pins s σ H vs us Q I r h
  obtain ⟨a, ys, n, rfl, hx, ha, q⟩ := h
  rw [Vals.ref1 r]
  have R : SetS X.prog X.w s.heap a (mm (ys.map Sum.inr)) n := (I.hok a _ ha).1
  obtain ⟨o, es, ep, t, ho, hex, hd, g, nd, hm, hb, hf, hn, hr, hl⟩ := R
  have back : ∀ e ∈ es.toList, ∃ y, y ∈ ys ∧ ko e.2 = .inr y := fun e he => by
    have h1 : ko e.2 ∈ keysE es := List.mem_map.mpr ⟨e, he, rfl⟩
    obtain ⟨y, hy1, hy2⟩ := List.mem_map.mp (mm_iff.mp ((hm _).2 h1))
    exact ⟨y, hy1, hy2.symm⟩
  let bo : Value → Str := fun v => match v with | .str x _ => x | _ => ⟨#[]⟩
  have hbo : ∀ e ∈ es.toList, ∃ u, e.2 = Value.str (bo e.2) u := fun e he => by
    obtain ⟨k, t, e1, _⟩ := g e he
    obtain ⟨c, _, e2⟩ := back e he
    rw [e1, ko_kvl] at e2
    subst e2
    exact ⟨t, by rw [e1]; rfl⟩
  have kb : ∀ e ∈ es.toList, ko e.2 = .inr (bo e.2) := fun e he => by
    obtain ⟨u, e1⟩ := hbo e he
    rw [e1]; rfl
  refine sorted_setG (β := Str) (fun b => .str b) (fun b t => .str b t) bo (fun h b t => .str b t) (fun _ _ => rfl) (fun b => ⟨fun z => (nomatch z), fun xs z => (nomatch z)⟩) (fun _ => rfl) ho hex hd hb hf hr hl hbo (I.ok.hd hc) hu fun s' p out c bs k gg oo hp hg pm ei => ?_
  have mem : ∀ y, y ∈ bs.mergeSort (dataLe false fun b => PyData.str b) ↔ y ∈ ys := fun y => by
    rw [(List.mergeSort_perm _ _).mem_iff, pm.mem_iff, List.mem_map]
    constructor
    · rintro ⟨e, he, rfl⟩
      obtain ⟨c, hc1, hc2⟩ := back e he
      rw [kb e he] at hc2
      exact (Sum.inr.inj hc2) ▸ hc1
    · intro hy
      have : (Sum.inr y : Key) ∈ keysE es := (hm _).1 (mm_iff.mpr (List.mem_map.mpr ⟨y, hy, rfl⟩))
      obtain ⟨e, he, e1⟩ := List.mem_map.mp this
      rw [kb e he] at e1
      exact ⟨e, he, Sum.inr.inj e1⟩
  have nd2 : (bs.mergeSort (dataLe false fun b => PyData.str b)).Nodup := by
    rw [(List.mergeSort_perm _ _).nodup_iff, pm.nodup_iff]
    have e1 : keysE es = (es.toList.map fun e => bo e.2).map Sum.inr := by
      unfold keysE
      rw [List.map_map]
      exact List.map_congr_left fun e he => kb e he
    rw [e1] at nd
    exact (List.pairwise_map.mp nd).imp fun {a b} h e => h (congrArg _ e)
  have pw : (bs.mergeSort (dataLe false fun b => PyData.str b)).Pairwise ltT := by
    have e1 : (dataLe false fun b : Str => PyData.str b) = fun a b => decide (a.cps.toList ≤ b.cps.toList) := PySem.W.dataLe_str fun b => b
    rw [e1] at nd2 ⊢
    have s1 := List.pairwise_mergeSort (le := fun a b : Str => decide (a.cps.toList ≤ b.cps.toList)) (fun a b c h1 h2 => decide_eq_true (List.le_trans (of_decide_eq_true h1) (of_decide_eq_true h2))) (fun a b => by
      rcases List.le_total a.cps.toList b.cps.toList with z | z
      · rw [decide_eq_true z]; rfl
      · rw [decide_eq_true z, Bool.or_true]) bs
    refine (s1.and nd2).imp fun {a b} ⟨h1, h2⟩ => ?_
    have h1 := of_decide_eq_true h1
    by_cases z : a.cps.toList < b.cps.toList
    · exact z
    · exact absurd (PySem.W.str_of_cps (List.le_antisymm h1 z)) h2
  have es2 := srtS_is pw mem
  rw [es2] at ei
  have hlen : ((srtS ys).map V.str).length ≤ sizeLine := by
    have := srtS_length (l := ys)
    rw [List.length_map, sizeLine_eq]; omega
  have hnp : H p = none := I.hok.fresh hp
  have J : Inv X pins σ (upd H p (.lst ((srtS ys).map V.str))) { s with heap := s'.heap, gens := s'.gens, drawn := s'.drawn, toks := s'.toks } :=
    I.call (ch := []) (Un.laid k hp hnp) (I.hok.laid k hp ⟨hlen, out.toList, c, vals_strs ei, hg⟩) (by rw [gg]; exact I.bare) fun _ z => nomatch z
  have e : s' = { s with heap := s'.heap, gens := s'.gens, drawn := s'.drawn, toks := s'.toks } := by
    cases s'; cases s; cases oo; rfl
  rw [e]
  exact ⟨.ref p, _, J, rfl, q p hnp⟩
end
end SX
namespace SX
open PySem PySem.Spec PyProof.Rows L2
open PySem.W (EachIs alike dataLe AllAlike Sortable SortsAt dataKind dataKind_inv dataKind_some sortingHeap copyHeap sorting_copy_old)
section
variable {prog : Program} {w : World} {A : Around} {s : Shared}
theorem sortsAt_one {vs : List Value} {ds : List PyData} (e : EachIs (fun v d => ∃ as, Reads s.heap v d as) vs ds) (hal : AllAlike ds) (hn : ∀ d ∈ ds, d ≠ .none) (h1 : ds.length ≤ 1) (hu : ∀ d, d ∈ ds → A.units + d.depth < cLine) : SortsAt prog w A s (dataKind s.heap ds) vs := by
  refine ⟨fun v hv => ?_, ?_⟩
  · obtain ⟨d, hd, as, r⟩ := e.left v hv
    exact ⟨_, dataKind_some hal hd r⟩
  · refine ⟨general', ?_, fun h2 => absurd h2 (by have := e.length; omega)⟩
    intro E x y a b Q ha hb hq
    obtain ⟨d, as, hd, ra, rfl⟩ := dataKind_inv ha
    obtain ⟨d', as', hd', rb, rfl⟩ := dataKind_inv hb
    show wpAny (model prog w) A (oneLt' false x y) Q E s
    exact PySem.W.oneLt_alike (fun z => (nomatch z)) ra rb (hal d hd d' hd') (hn d hd) (Nat.lt_of_le_of_lt (Nat.add_le_add_left (Nat.min_le_left _ _) _) (hu d hd)) hq
end
def SortOk (ps : List PyData) : Prop := AllAlike ps ∧ (∀ p ∈ ps, p ≠ .none) ∧ (Sortable ps ∨ ps.length ≤ 1) ∧ ∀ p ∈ ps, p.depth ≤ 30
def rSortD (K : PySem.W.Frag) : List V → Hp → VK → Prop := fun vs H Q => ∃ (a : Addr) (ws : List V) (ps : List PyData), vs = [.ref a] ∧ SqL K H a ws ∧ DpAll K H ws ps ∧ ws.length = ps.length ∧ ws.length ≤ sizeLine ∧ SortOk ps ∧
  ∀ p, H p = none → Q (.ref p) (upd H p (.lst (((ws.zip ps).mergeSort (dataLe false (·.2))).map (·.1))))
theorem each_zip {h : Heap} : ∀ {us : List Value} {ws : List V} {ps : List PyData} {as : List Addr}, Vals ws us → ReadsAll h us ps as → EachIs (fun (u : Value) (b : V × PyData) => RelV b.1 u) us (ws.zip ps) ∧ EachIs (fun (u : Value) (b : V × PyData) => ∃ as, Reads h u b.2 as) us (ws.zip ps)
  | _, _, _, _, .nil, .nil => ⟨.nil, .nil⟩
  | _, _, _, _, .cons h t, .cons r1 r2 => ⟨.cons h (each_zip t r2).1, .cons ⟨_, r1⟩ (each_zip t r2).2⟩
theorem vals_zip : ∀ {us : List Value} {bs : List (V × PyData)}, EachIs (fun (u : Value) (b : V × PyData) => RelV b.1 u) us bs → Vals (bs.map (·.1)) us
  | _, _, .nil => .nil
  | _, _, .cons h t => .cons h (vals_zip t)
section
variable {X : Cx}
theorem cr_sortD (hu : X.A.units + 64 < cLine) : CallR X (.builtin "sorted") (rSortD X.K) := by
  intro pins s σ H vs us Q I r h
  obtain ⟨a, ws, ps, rfl, hs, hp, hlen, hz, ⟨hal, hnn, hk, hd⟩, q⟩ := h
  rw [Vals.ref1 r]
  obtain ⟨its, rv, hl, _⟩ := I.list hs
  obtain ⟨as, ra⟩ := Dp.readsAll I ps ws its hp rv
  obtain ⟨e1, e2⟩ := each_zip rv ra
  have em : (ws.zip ps).map (·.2) = ps := List.map_snd_zip (by omega)
  have hiz : its.length = ws.length := rv.length.symm
  have fin : ∀ out : List Value, out.length = (ws.zip ps).length → EachIs (fun (u : Value) (b : V × PyData) => RelV b.1 u) out ((ws.zip ps).mergeSort (dataLe false (·.2))) → EP X pins σ Q (.ref (s.heap.objs.size + 1)) { s with heap := sortedAll s.heap its out.toArray } := fun out ho eo => by
    obtain ⟨c, hc⟩ := sortedAll_at s.heap its out.toArray
    have hnp : H (s.heap.objs.size + 1) = none := I.hok.fresh (Nat.le_succ _)
    have k : ∀ b o, s.heap.get? b = some o → (sortedAll s.heap its out.toArray).get? b = some o := fun _ _ => sortedAll_old
    have hl2 : (((ws.zip ps).mergeSort (dataLe false (·.2))).map (·.1)).length ≤ sizeLine := by
      rw [List.length_map, List.length_mergeSort, List.length_zip]; omega
    exact ⟨.ref (s.heap.objs.size + 1), upd H (s.heap.objs.size + 1) (.lst (((ws.zip ps).mergeSort (dataLe false (·.2))).map (·.1))), I.call (ch := []) (Un.laid k (Nat.le_succ _) hnp) (I.hok.laid k (Nat.le_succ _) ⟨hl2, out, c, vals_zip eo, by simpa using hc⟩) I.bare fun _ z => (nomatch z), rfl, q _ hnp⟩
  have hub : ∀ b, b ∈ ws.zip ps → X.A.units + 2 + (b.2 : PyData).depth < cLine := fun b hb => by
    have := hd b.2 (by rw [← em]; exact List.mem_map.mpr ⟨b, hb, rfl⟩)
    omega
  have hl' : s.heap.IsList a its.toArray := hl.isList
  rcases hk with hk | hk
  · exact PySem.W.sorted_data (enc := fun b : V × PyData => b.2) (R := fun u b => RelV b.1 u) hl' e1 e2 (by rw [em]; exact hal) (by rw [em]; exact hk) (by rw [List.length_zip]; omega) hub fun out ho eo => fin out ho eo
  · have er' : EachIs (fun (u : Value) (b : V × PyData) => ∃ as, Reads (sortingHeap (copyHeap s.heap its) (s.heap.objs.size + 1) its) u b.2 as) its (ws.zip ps) := e2.mono fun _ _ ⟨as, r⟩ => ⟨as, PyProof.Rows.Reads.keeps (fun _ _ => sorting_copy_old) r⟩
    have hub2 : ∀ d, d ∈ (ws.zip ps).map (·.2) → X.A.in1.in1.units + d.depth < cLine := fun d hd2 => by
      rw [em] at hd2
      have := hd d hd2
      have u : X.A.in1.in1.units ≤ X.A.units + 2 := by simp [Around.in1]
      omega
    refine PySem.W.sorted_vals hl' (sortsAt_one (s := { s with heap := sortingHeap (copyHeap s.heap its) (s.heap.objs.size + 1) its }) (PySem.W.each_map (R := fun v d => ∃ as, Reads (sortingHeap (copyHeap s.heap its) (s.heap.objs.size + 1) its) v d as) (fun b : V × PyData => b.2) er') (by rw [em]; exact hal) (by rw [em]; exact hnn) (by rw [em]; exact hk) hub2) (by omega) ?_
    exact fin _ (by rw [PySem.W.sortVals_length false rfl, hiz, List.length_zip]; omega) (PySem.W.sortVals_data (enc := fun b : V × PyData => b.2) false e1 er' (by rw [em]; exact hal))
end
end SX
namespace DL
open PySem PySem.Spec PyProof.Rows L2
section
variable {c : Cn} {X : Cx} {F : Fr} {W : WX} {ρ : List Sl} {k : Nat}
def isiC (cn : Str) : D → M D := isiM (fun _ => some false) fun n => if n = cn then some true else none
def isCls (c : Cn) (cn : Str) : Prop := AtC c cn fun C => PySem.W.isClsIn c.K C = true ∧ PySem.W.typeIn c.K (.ref C) = some (.type "type")
theorem de_isiO {cn y : Str} {a : Expr} {p py pos : Pos} {m : M D} (Cc : Ctx c X k) (hT : InsTy c cn) (hC : isCls c cn) (hy : y = cn) (hg : Gl X "isinstance") (hm : X.mg "isinstance" = none) (ha : PE X a (rdE c F W ρ m)) (hgy : Gl X y)
    (h1 : starEach (a :: [.Name y py]) X.env = (false, eval a X.env) :: starEach [.Name y py] X.env := by rfl) (h2 : starEach (.Name y py :: []) X.env = (false, eval (.Name y py) X.env) :: starEach [] X.env := by rfl)
    (hpl : (backTo pos (starEach [.Name y py] X.env)).any (·.1) = false := by rfl) (hd : (y == ("__debug__" : Str)) = false := by decide) : PE X (.Call (.Name "isinstance" p) [a, .Name y py] [] pos) (rdE c F W ρ (m >>= isiC cn)) := by
  subst hy
  obtain ⟨C, hm0, i1, i2⟩ := hC
  have hmy : X.mg y = some (.ref C) := by rw [Cc.mg]; exact hm0
  obtain ⟨t1, t2, t3, t4, t5⟩ := hT.get hm0
  refine de_isiX (cv := .ref C) (u := .ref C) Cc.K (.own C) (fun n b hn h => ?_) (fun n b h => ?_) hg hm ha (pe_glob hgy hmy rfl hd) h1 h2 hpl
  · cases h
    have e : ¬ ((Value.type n == Value.ref C) = true) := by simp
    show (if (Value.type n == Value.ref C) = true then some true else PySem.W.kitCls c.K (.type n) (.ref C)) = some false
    rw [if_neg e]
    show (if ((PySem.W.clsIn c.K C).isSome && PySem.W.typeIn c.K (.ref C) == some (.type "type")) = true then PySem.W.subIn c.K (.type n) (.ref C) else none) = some false
    have i1 : (PySem.W.clsIn c.K C).isSome = true := i1
    rw [if_pos (by rw [i1, i2]; rfl)]
    exact sub_ty hn
  · by_cases z : n = y
    · rw [if_pos z] at h
      cases h
      subst z
      intro C2 hC2
      rw [hm0] at hC2
      cases hC2
      refine ⟨t1, t2, t3, t4, t5, ?_⟩
      show (if (Value.ref C == Value.ref C) = true then some true else _) = some true
      rw [if_pos (by simp)]
    · rw [if_neg z] at h; cases h
end
end DL
namespace DL
open PySem PySem.Spec PyProof.Rows L2
open PySem.W (dataLe)
section
variable {c : Cn} {X : Cx} {F : Fr} {W : WX} {ρ : List Sl} {k : Nat}
def pyLe (x y : D) : Bool := match toPy x, toPy y with
  | some p, some q => dataLe false (fun p : PyData => p) p q
  | _, _ => false
open Classical in
noncomputable def sortD : D → M D
  | .lst ds => match toPys ds with
    | some ps => if SX.SortOk ps ∧ ds.length ≤ sizeLine then Pure.pure (.lst (ds.mergeSort pyLe)) else M.no
    | none => M.no
  | _ => M.no
theorem toPys_get : ∀ {ds : List D} {ps : List PyData}, toPys ds = some ps → ds.length = ps.length ∧ ∀ t ∈ ds.zip ps, toPy t.1 = some t.2
  | [], ps, h => by
    simp [toPys] at h; subst h; exact ⟨rfl, fun t ht => by simp at ht⟩
  | d :: ds, ps, h => by
    unfold toPys at h
    cases h1 : toPy d with
    | none => rw [h1] at h; simp at h
    | some p =>
      cases h2 : toPys ds with
      | none => rw [h1, h2] at h; simp at h
      | some qs =>
        rw [h1, h2] at h
        cases h
        obtain ⟨e1, e2⟩ := toPys_get h2
        refine ⟨by simp [e1], fun t ht => ?_⟩
        rcases List.mem_cons.mp ht with z | z
        · subst z; exact h1
        · exact e2 t z
theorem reps_mem {G : Hp} {T : List (V × D)} (h : ∀ t ∈ T, c.rep G t.1 t.2) : c.reps G (T.map (·.1)) (T.map (·.2)) := by
  induction T with
  | nil => exact Reps.nil
  | cons t T ih => exact Reps.cons (h t List.mem_cons_self) (ih fun u hu => h u (List.mem_cons_of_mem _ hu))
theorem zip3_a {α β γ : Type} : ∀ (vs : List α) (ds : List β) (ps : List γ), vs.length = ds.length → ds.length = ps.length → (vs.zip (ds.zip ps)).map (fun t => (t.1, t.2.2)) = vs.zip ps
  | [], _, _, _, _ => by simp
  | _ :: _, [], _, h, _ => by simp at h
  | _ :: _, _ :: _, [], _, h => by simp at h
  | v :: vs, d :: ds, p :: ps, h, k => by
    simp only [List.zip_cons_cons, List.map_cons]
    rw [zip3_a vs ds ps (by simpa using h) (by simpa using k)]
theorem zip3_b {α β γ : Type} : ∀ (vs : List α) (ds : List β) (ps : List γ), vs.length = ds.length → ds.length = ps.length → (vs.zip (ds.zip ps)).map (fun t => t.2.1) = ds
  | [], [], _, _, _ => by simp
  | [], _ :: _, _, h, _ => by simp at h
  | _ :: _, [], _, h, _ => by simp at h
  | _ :: _, _ :: _, [], _, h => by simp at h
  | v :: vs, d :: ds, p :: ps, h, k => by
    simp only [List.zip_cons_cons, List.map_cons]
    rw [zip3_b vs ds ps (by simpa using h) (by simpa using k)]
theorem sort_reps {G : Hp} {vs : List V} {ds : List D} {ps : List PyData} (r : c.reps G vs ds) (h : toPys ds = some ps) : c.reps G (((vs.zip ps).mergeSort (dataLe false (·.2))).map (·.1)) (ds.mergeSort pyLe) := by
  obtain ⟨e1, e2⟩ := toPys_get h
  have l1 := r.1
  let T : List (V × D × PyData) := vs.zip (ds.zip ps)
  have hT : ∀ t ∈ T, c.rep G t.1 t.2.1 ∧ toPy t.2.1 = some t.2.2 := fun t ht => by
    obtain ⟨i, hi, e⟩ := List.getElem_of_mem ht
    have e : (vs.zip (ds.zip ps))[i]'hi = t := e
    rw [List.getElem_zip, List.getElem_zip] at e
    have hi1 : i < vs.length := by simp [T] at hi; omega
    have hi2 : i < ds.length := by omega
    have hi3 : i < ps.length := by omega
    subst e
    refine ⟨r.2 i _ _ (List.getElem?_eq_getElem hi1) (List.getElem?_eq_getElem hi2), ?_⟩
    refine e2 (ds[i], ps[i]) ?_
    have : (ds.zip ps)[i]'(by simp; omega) = (ds[i], ps[i]) := List.getElem_zip
    rw [← this]
    exact List.getElem_mem _
  have m1 : T.map (fun t => (t.1, t.2.2)) = vs.zip ps := zip3_a vs ds ps (by omega) (by omega)
  have m2 : T.map (fun t => t.2.1) = ds := zip3_b vs ds ps (by omega) (by omega)
  have s1 := List.map_mergeSort (r := fun a b : V × D × PyData => dataLe false (fun b : V × PyData => b.2) (a.1, a.2.2) (b.1, b.2.2)) (s := dataLe false (fun b : V × PyData => b.2)) (f := fun t => (t.1, t.2.2)) (l := T) (fun a _ b _ => rfl)
  have s2 := List.map_mergeSort (r := fun a b : V × D × PyData => dataLe false (fun b : V × PyData => b.2) (a.1, a.2.2) (b.1, b.2.2)) (s := pyLe) (f := fun t => t.2.1) (l := T) (fun a ha b hb => by
    unfold pyLe
    rw [(hT a ha).2, (hT b hb).2]
    rfl)
  rw [m1] at s1
  rw [m2] at s2
  rw [← s1, ← s2, List.map_map]
  have := reps_mem (c := c) (G := G) (T := (T.mergeSort fun a b => dataLe false (fun b : V × PyData => b.2) (a.1, a.2.2) (b.1, b.2.2)).map fun t => (t.1, t.2.1)) (fun t ht => by
    obtain ⟨u, hu, rfl⟩ := List.mem_map.mp ht
    exact (hT u (List.mem_mergeSort.mp hu)).1)
  rw [List.map_map, List.map_map] at this
  exact this
open Classical in
theorem cd_sortD : CallD c (SX.rSortD c.K) (f1 sortD) := by
  intro F ρ W P σ H G vs ds Q R rs q
  match ds, q with
  | [d], q =>
    obtain ⟨v, rfl, rv⟩ := rs.one
    cases d with
    | lst xs =>
      have q : out (match toPys xs with
        | some ps => if SX.SortOk ps ∧ xs.length ≤ sizeLine then Pure.pure (D.lst (xs.mergeSort pyLe)) else M.no
        | none => M.no) P _ _ := q
      cases hp : toPys xs with
      | none => rw [hp] at q; exact q.elim
      | some ps =>
        rw [hp] at q
        by_cases z : SX.SortOk ps ∧ xs.length ≤ sizeLine
        · have q : out (if SX.SortOk ps ∧ xs.length ≤ sizeLine then Pure.pure (D.lst (xs.mergeSort pyLe)) else M.no) P _ _ := q
          rw [if_pos z] at q
          cases rv with
          | lst ha hl hr =>
            refine ⟨_, _, ps, rfl, SqL.of (R.post.le _ _ ha), dps_of R.post.le xs _ ps ⟨hl, hr⟩ hp, hl.trans (toPys_get hp).1, by rw [hl]; exact z.2, z.1, fun p hpn => ?_⟩
            exact new_lst R hpn (sort_reps ⟨hl, hr⟩ hp) q
        · have q : out (if SX.SortOk ps ∧ xs.length ≤ sizeLine then Pure.pure (D.lst (xs.mergeSort pyLe)) else M.no) P _ _ := q
          rw [if_neg z] at q; exact q.elim
    | _ => exact q.elim
  | [], q => exact q.elim
  | _ :: _ :: _, q => exact q.elim
end
end DL
namespace DL
open PySem PySem.Spec PyProof.Rows L2
section
variable {c : Cn} {X : Cx} {F : Fr} {W : WX} {ρ : List Sl} {k : Nat}
def nums : List D → Option (List Int)
  | [] => some []
  | .int b :: ds => (nums ds).map (b :: ·)
  | _ => none
theorem nums_of {G : Hp} : ∀ {vs : List V} {ds : List D} {bs : List Int}, c.reps G vs ds → nums ds = some bs → vs = bs.map V.int
  | vs, [], bs, r, h => by cases h; rw [r.nil_of']; rfl
  | [], _ :: _, _, r, _ => by have := r.1; simp at this
  | v :: vs, d :: ds, bs, r, h => by
    cases d with
    | int b =>
      simp only [nums, Option.map_eq_some_iff] at h
      obtain ⟨bs', h, rfl⟩ := h
      rw [nums_of r.tail h, r.head.int_of]; rfl
    | _ => simp [nums] at h
def isKey : D → Bool
  | .int _ => true
  | .str _ => true
  | _ => false
/-- list(x), x a sequence or a dict with plain keys -/
def listE : D → M D
  | .dic kvs => if (kvs.all fun p => isKey p.1) = true then Pure.pure (.lst (kvs.map (·.1))) else M.no
  | d => listD d
theorem rep_keyV {G : Hp} (k : Key) : c.rep G (kV k) (keyD k) := by
  cases k with
  | inl i => exact .int i
  | inr x => exact .str x
theorem reps_keys {G : Hp} : ∀ (ks : List Key), c.reps G (ks.map kV) (ks.map keyD)
  | [] => Reps.nil
  | k :: ks => Reps.cons (rep_keyV k) (reps_keys ks)
def rListE (K : PySem.W.Frag) : V → Hp → VK → Prop := fun v H Q => rListOf K v H Q ∨ (∃ p kvs, v = .ref p ∧ H p = some (.dK kvs) ∧ ∀ q, H q = none → Q (.ref q) (upd H q (.lst (kvs.map fun kv => kV kv.1)))) ∨ ∃ d, v = .ref d ∧ Rd H d (.dT []) ∧ ∀ q, H q = none → Q (.ref q) (upd H q (.lst []))
theorem cr_listE (hc : X.calm = true) : CallR X (.type "list") (fun xs H Q => ∃ v, xs = [v] ∧ rListE X.K v H Q) := CallR.by (CallR.or cr_list (CallR.or (call_list_dK hc) (call_list_dT hc))) fun xs H Q ⟨v, e, h⟩ => by
  rcases h with h | ⟨p, kvs, e2, h, q⟩ | ⟨d, e2, h, q⟩
  · exact .inl ⟨v, e, h⟩
  · exact .inr (.inl ⟨p, kvs, by rw [e, e2], h, q⟩)
  · refine .inr (.inr ⟨d, [], by rw [e, e2], h, fun p bs hp hk => ?_⟩)
    have : bs = [] := by
      cases bs with
      | nil => rfl
      | cons b bs => exact absurd hk (by intro z; cases z)
    subst this
    exact q p hp
theorem cd_listE : CallD c (fun xs H Q => ∃ v, xs = [v] ∧ rListE c.K v H Q) (f1 listE) := by
  intro F ρ W P σ H G vs ds Q R rs q
  have base : ∀ d, f1 listE [d] = f1 listD [d] → ds = [d] → ∃ v, vs = [v] ∧ rListE c.K v H Q := fun d e hd => by
    subst hd
    rw [e] at q
    obtain ⟨v, e2, h⟩ := cd_list F ρ W P σ H G vs [d] Q R rs q
    exact ⟨v, e2, .inl h⟩
  match ds, q with
  | [d], q =>
    cases d with
    | dic kvs =>
      obtain ⟨v, rfl, rv⟩ := rs.one
      have q2 : out (if (kvs.all fun p => isKey p.1) = true then Pure.pure (D.lst (kvs.map (·.1))) else M.no) P _ _ := q
      by_cases z : (kvs.all fun p => isKey p.1) = true
      · rw [if_pos z] at q2
        cases rv with
        | dicK ha hk hr =>
          rename_i a vs'
          refine ⟨_, rfl, .inr (.inl ⟨a, vs', rfl, R.post.le _ _ ha, fun l hl => new_lst R hl ?_ q2⟩)⟩
          have e : kvs.map (·.1) = (vs'.map (·.1)).map keyD := by rw [List.map_map, ← hk]; rfl
          have e2 : (vs'.map fun kv => kV kv.1) = (vs'.map (·.1)).map kV := by rw [List.map_map]; rfl
          rw [e, e2]
          exact reps_keys _
        | dicT ha hk hr =>
          rename_i a vs'
          cases kvs with
          | nil =>
            cases vs' with
            | nil => exact ⟨_, rfl, .inr (.inr ⟨a, rfl, .inl (R.post.le _ _ ha), fun l hl => new_lst R hl Reps.nil q2⟩)⟩
            | cons _ _ => simp at hk
          | cons p r =>
            exfalso
            cases vs' with
            | nil => simp at hk
            | cons p' r' =>
              simp only [List.map_cons, List.cons.injEq] at hk
              simp only [List.all_cons, Bool.and_eq_true] at z
              rw [← hk.1] at z
              simp [isKey] at z
      · rw [if_neg z] at q2; exact q2.elim
    | _ => exact base _ rfl rfl
  | [], q => exact q.elim
  | _ :: _ :: _, q => exact q.elim
end
end DL
namespace DL
open PySem PySem.Spec PyProof.Rows L2
section
variable {c : Cn} {X : Cx} {F : Fr} {W : WX} {ρ : List Sl} {k : Nat}
/-- the global x is always this value -/
def KVal (c : Cn) (x : Str) (d : D) : Prop := ∃ v u, c.mg x = some u ∧ RelV v u ∧ ∀ G, c.rep G v d
theorem de_globK {x : Str} {d : D} {pos : Pos} (Cc : Ctx c X k) (hg : Gl X x) (h : KVal c x d) (hx : (x == ("__debug__" : Str)) = false := by decide) : PE X (.Name x pos) (rdE c F W ρ (Pure.pure d)) := by
  obtain ⟨v, u, hm, r, hd⟩ := h
  exact de_glob hg (by rw [Cc.mg]; exact hm) r hd hx
theorem kval_tup {x : Str} {a : Addr} {o : Obj} {its : List Value} {n : Nat} {vs : List V} {ds : List D} (hm : c.mg x = some (.ref a)) (ho : c.K.lookup a = some o) (hc : o.cls = .type "tuple") (hd : o.data = .seq its.toArray n) (hl : its.length ≤ sizeLine) (hv : Vals vs its) (hr : ∀ G, c.reps G vs ds) : KVal c x (.tup ds) :=
  ⟨.ref a, .ref a, hm, rfl, fun G => .tup (.inr ⟨o, its.toArray, n, ho, hc, hd, by simpa using hl, by simpa using hv⟩) (hr G).1 (hr G).2⟩
theorem kval_txs {x : Str} {a : Addr} {o : Obj} {its : List Value} {n : Nat} {ys : List Str} (hm : c.mg x = some (.ref a)) (ho : c.K.lookup a = some o) (hc : o.cls = .type "tuple") (hd : o.data = .seq its.toArray n) (hl : its.length ≤ sizeLine) (hv : Vals (ys.map V.str) its) : KVal c x (.tup (ys.map .str)) :=
  kval_tup hm ho hc hd hl hv fun G => reps_strs ys
/-- at the keys of tab, the module's dict x has just these ints -/
def KTab (c : Cn) (w : World) (x : Str) (tab : List (Str × Option Int)) : Prop := ∃ d, c.mg x = some (.ref d) ∧ (∃ es n, KDict c.K w d es n) ∧ ∀ p ∈ tab, match p.2 with
  | some i => ∃ t, PySem.W.nsIn c.K d p.1 = some (some (.int i t))
  | none => PySem.W.nsIn c.K d p.1 = some none
def kgetD (tab : List (Str × Option Int)) : D → D → M D
  | .str z, dflt => match tab.lookup z with
    | some (some i) => Pure.pure (.int i)
    | some none => Pure.pure dflt
    | none => M.no
  | _, _ => M.no
theorem lookup_mem {β : Type} {z : Str} {v : β} : ∀ {tab : List (Str × β)}, tab.lookup z = some v → (z, v) ∈ tab
  | [], h => by simp at h
  | p :: r, h => by
    obtain ⟨a, b⟩ := p
    rw [List.lookup_cons] at h
    split at h
    · rename_i e
      have e := beq_iff_eq.mp e
      cases h
      subst e
      exact List.mem_cons_self
    · exact List.mem_cons_of_mem _ (lookup_mem h)
theorem de_kget {x : Str} {w : World} {tab : List (Str × Option Int)} {e f : Expr} {p apos cpos : Pos} {me mf : M D} (Cc : Ctx c X k) (hw : X.w = w) (h : KTab c w x tab) (hg : Gl X x) (he : PE X e (rdE c F W ρ me)) (hf : PE X f (rdE c F W ρ mf)) (m : M2 X (.Name x p) "get" apos e f cpos) (hdb : (x == ("__debug__" : Str)) = false := by decide) :
    PE X (.Call (.Attribute (.Name x p) "get" apos) [e, f] [] cpos) (rdE c F W ρ (me >>= fun y => mf >>= fun z => kgetD tab y z)) := by
  subst hw
  obtain ⟨d, hm, ⟨es, n, kd⟩, ht⟩ := h
  have hm' : X.mg x = some (.ref d) := by rw [Cc.mg]; exact hm
  have kd' : KDict X.K X.w d es n := by rw [Cc.K]; exact kd
  refine ⟨fun pins s σ H Q I ⟨P, G, R, q⟩ => ?_⟩
  have so := (pe_glob (pos := p) hg hm' (v := .ref d) rfl hdb).run pins s σ H (fun v H1 => v = .ref d ∧ H1 = H) I ⟨rfl, rfl⟩
  refine wpAny_Call_method m.base m.few m.line PySem.F.plainAttrs_dict PySem.F.slot_dict_get PySem.F.type_dict_get (thn so fun u s1 ⟨x1, H1, I1, rx, ex, eH⟩ => ?_)
  subst ex eH
  obtain rfl : u = Value.ref d := rx
  have mo := PySem.W.mapOf_K (prog := X.prog) (w := X.w) I1.kIn kd'.at_ kd'.lit
  refine ⟨mo.typeIs, fun b q => ?_, ?_⟩
  · cases q
    exact ⟨_, I1.kIn _ _ kd'.at_, rfl⟩
  rw [m.trees]
  have se := he.run pins s1 σ _ (fun y H2 => ∃ P2 G2 dy, Ext G G2 ∧ Rel c F ρ P2 σ H2 G2 ∧ c.rep G2 y dy ∧ out (mf >>= fun z => kgetD tab dy z) P2 (fun d P' => ∀ v H' G', Ext G2 G' → Rel c F ρ P' σ H' G' → c.rep G' v d → Q v H') (exW c F W P2 G2 σ)) I1
    ⟨P, G, R, out_mono (out_bind.mp q) (fun dy P2 q2 v H2 G2 e2 R2 r2 => ⟨P2, G2, dy, e2, R2, r2, out_mono q2 (fun d P3 q3 v H3 G3 e3 R3 r3 => q3 v H3 G3 (e2.trans e3) R3 r3) fun _ _ z => exW_le e2 z⟩) fun _ _ z => z⟩
  refine Calls.callWith_builtin rfl (Calls.evalArgs_plain (Calls.spliced_cons (thn se fun iv s2 ⟨y, H2, I2, ry, P2, G2, dy, e2, R2, r2, q2⟩ => ?_)))
  have sf := hf.run pins s2 σ _ (fun z H3 => ∃ P3 G3 dz, Ext G2 G3 ∧ Rel c F ρ P3 σ H3 G3 ∧ c.rep G3 z dz ∧ out (kgetD tab dy dz) P3 (fun d P' => ∀ v H' G', Ext G3 G' → Rel c F ρ P' σ H' G' → c.rep G' v d → Q v H') (exW c F W P3 G3 σ)) I2
    ⟨P2, G2, R2, out_mono (out_bind.mp q2) (fun dz P3 q3 v H3 G3 e3 R3 r3 => ⟨P3, G3, dz, e3, R3, r3, out_mono q3 (fun d P4 q4 v H4 G4 e4 R4 r4 => q4 v H4 G4 (e3.trans e4) R4 r4) fun _ _ z => exW_le e3 z⟩) fun _ _ z => z⟩
  refine Calls.spliced_cons (thn sf fun fv s3 ⟨z, H3, I3, rz, P3, G3, dz, e3, R3, r3, q3⟩ => Calls.spliced_nil ?_)
  cases dy with
  | str x0 =>
    obtain rfl := r2.str_of
    obtain ⟨t, rfl⟩ := (show ∃ t, iv = Value.str x0 t from ry)
    have mo3 := PySem.W.mapOf_K (prog := X.prog) (w := X.w) I3.kIn kd'.at_ kd'.lit
    have q3 : out (match tab.lookup x0 with
      | some (some i) => Pure.pure (D.int i)
      | some none => Pure.pure dz
      | none => M.no) P3 _ _ := q3
    cases hl : tab.lookup x0 with
    | none => rw [hl] at q3; exact q3.elim
    | some o =>
      rw [hl] at q3
      have hin := ht _ (lookup_mem hl)
      refine call_meetsIn PySem.F.slot_dict_get mo3.typeIs PySem.F.entry_dict_get (PySem.F.args_dict_get_3 _ _ _) (meets_dict_get_default (strKind X.prog X.w) d (PySem.strKind_is X.prog X.w x0 t) kd'.low fv) ⟨_, mo3, ?_⟩
      cases o with
      | some i =>
        obtain ⟨t2, hin⟩ := (show ∃ t, PySem.W.nsIn c.K d x0 = some (some (.int i t)) from hin)
        rw [← Cc.K] at hin
        rw [PySem.W.find_K kd'.at_ hin]
        exact ⟨.int i, H3, I3.tok _, ⟨_, rfl⟩, (show ∀ v H' G', Ext G3 G' → Rel c F ρ P3 σ H' G' → c.rep G' v (.int i) → Q v H' from q3) _ H3 G3 (Ext.refl _) R3 (.int i)⟩
      | none =>
        have hin : PySem.W.nsIn c.K d x0 = some none := hin
        rw [← Cc.K] at hin
        rw [PySem.W.find_K kd'.at_ hin]
        exact ⟨z, H3, I3.tok _, rz, (show ∀ v H' G', Ext G3 G' → Rel c F ρ P3 σ H' G' → c.rep G' v dz → Q v H' from q3) _ H3 G3 (Ext.refl _) R3 r3⟩
  | _ => exact q3.elim
def sortSetX : D → M D
  | .lst ds => match txs ds with
    | some ys => if ys.length < 4000 then Pure.pure (.lst ((SX.srtS ys).map .str)) else M.no
    | none => M.no
  | _ => M.no
theorem de_sortSetX {x y : Str} {p p2 pos q2 : Pos} {a : Expr} {ms : M (List Ar)} (hK : X.K = c.K) (hc : X.calm = true) (hu : X.A.units + 64 < cLine) (hg : Gl X x) (hm : X.mg x = none) (hv : bootBuiltins x = some (.builtin "sorted")) (hg2 : Gl X y) (hm2 : X.mg y = none) (hv2 : bootBuiltins y = some (.type "set")) (ha : PA X [a] (rdA c F W ρ ms))
    (hn : x ≠ "__name__" := by decide) (hdb : (x == ("__debug__" : Str)) = false := by decide) (hn2 : y ≠ "__name__" := by decide) (hdb2 : (y == ("__debug__" : Str)) = false := by decide)
    (he : starEach [a] X.env = [(false, eval a X.env)] := by rfl) (he2 : starEach [Expr.Call (.Name y p2) [a] [] q2] X.env = [(false, eval (.Call (.Name y p2) [a] [] q2) X.env)] := by rfl) :
    PE X (.Call (.Name x p) [.Call (.Name y p2) [a] [] q2] [] pos) (rdE c F W ρ (ms >>= fun as => DL.vals as >>= f1 sortSetX)) := by
  refine pe_by (pe_callB (SX.cr_srtL hc hu) hg hm hv (pa_cons (pe_callTy (SX.cr_setL hc) hg2 hm2 hv2 ha hn2 hdb2 he rfl) pa_nil) hn hdb he2 rfl) fun σ H Q ⟨P, G, R, q⟩ => ?_
  refine ⟨P, G, R, out_mono (out_bind.mp q) (fun as P1 q1 vs H1 G1 e1 R1 r1 => ?_) fun _ _ z => z⟩
  obtain ⟨ds, rr, q2⟩ := r1.reps (out_bind.mp q1)
  match ds, q2 with
  | [d], q2 =>
    cases d with
    | lst ds =>
      obtain ⟨v, rfl, rv⟩ := rr.one
      have q3 : out (match txs ds with
        | some ys => if ys.length < 4000 then Pure.pure (D.lst ((SX.srtS ys).map .str)) else M.no
        | none => M.no) P1 _ _ := q2
      cases hx : txs ds with
      | none => rw [hx] at q3; exact q3.elim
      | some ys =>
        rw [hx] at q3
        have q3 : out (if ys.length < 4000 then Pure.pure (D.lst ((SX.srtS ys).map .str)) else M.no) P1 _ _ := q3
        by_cases hl : ys.length < 4000
        · rw [if_pos hl] at q3
          cases rv with
          | lst ha hln hr =>
            have e := txs_of ⟨hln, hr⟩ hx
            subst e
            refine ⟨_, ys, rfl, SqL.of (R1.post.le _ _ ha), hl, fun p n hp => ?_⟩
            obtain ⟨R2, e2⟩ := R1.new hp (o := SX.SetSO X.prog X.w p (SX.mm (ys.map Sum.inr)) n) nt_ext
            refine ⟨p, ys, n, rfl, hl, upd_same, fun l hpl => ?_⟩
            exact new_lst R2 hpl (reps_strs _) fun v' H' G' e3 R3 r3 => q3 v' H' G' ((e1.trans e2).trans e3) R3 r3
        · rw [if_neg hl] at q3; exact q3.elim
    | _ => exact q2.elim
  | [], q2 => exact q2.elim
  | _ :: _ :: _, q2 => exact q2.elim
/-- of a bool, a list, a tuple -/
def truE : D → M Bool
  | .tup xs => Pure.pure (!xs.isEmpty)
  | .lst xs => Pure.pure (!xs.isEmpty)
  | .bl b => Pure.pure b
  | _ => M.no
theorem emp_len {α β : Type} {vs : List α} {ds : List β} (h : vs.length = ds.length) : (!ds.isEmpty) = (!vs.isEmpty) := by
  cases vs <;> cases ds <;> simp_all
theorem dt_tru {e : Expr} {m : M D} (hK : X.K = c.K) (h : PE X e (rdE c F W ρ m)) (he : ∀ whole, isTrue e X.env whole = (do let v ← whole; standAt e.pos; holding [v] (truthy v)) := by intro _; rfl) : PT X e (rdT c F W ρ (m >>= truE)) := by
  refine pt_by (pt_truth h he) fun σ H Q ⟨P, G, R, q⟩ => ?_
  refine ⟨P, G, R, out_mono (out_bind.mp q) (fun x P1 q1 v H1 G1 e1 R1 r1 => ?_) fun _ _ z => z⟩
  rw [hK]
  cases x with
  | bl b => exact ⟨b, by rw [r1.bl_of]; rfl, q1 H1 G1 e1 R1⟩
  | tup xs =>
    cases r1 with
    | tup ha hl hr => exact ⟨!xs.isEmpty, .inr (.inl ⟨_, Evl.ex_t R1.post.le ha, emp_len hl⟩), (show ∀ H' G', Ext G G' → Rel c F ρ P1 σ H' G' → Q (!xs.isEmpty) H' from q1) H1 G1 e1 R1⟩
  | lst xs =>
    cases r1 with
    | lst ha hl hr => exact ⟨!xs.isEmpty, .inl ⟨_, SqL.of (R1.post.le _ _ ha), emp_len hl⟩, (show ∀ H' G', Ext G G' → Rel c F ρ P1 σ H' G' → Q (!xs.isEmpty) H' from q1) H1 G1 e1 R1⟩
  | _ => exact q1.elim
end
end DL
namespace DL
open PySem PySem.Spec PyProof.Rows L2
/-- a method of the class cn -/
structure CalM (P : Program) (w : World) (c : Cn) (base : Heap) (k : Nat) (cn m : Str) (mf : List Ar → M D) : Prop where
  ex : ∃ (f : Addr) (fd : FuncData) (ps : List Str), AtC c cn (fun C => Cls c.K C ∧ Meth c.K C m f) ∧ FnG P w c.K c.mg base k f fd ps (spD c mf) ∧ Binds c.K fd ps [] ∧ PySem.W.fnIn c.K f = true
/-- a property -/
structure CalP (P : Program) (w : World) (c : Cn) (base : Heap) (k : Nat) (cn m : Str) (mf : List Ar → M D) : Prop where
  ex : ∃ (f : Addr) (fd : FuncData) (ps : List Str), AtC c cn (fun C => Cls c.K C ∧ ∃ p, PropOf c.K C m p f) ∧ FnG P w c.K c.mg base k f fd ps (spD c mf) ∧ Binds c.K fd ps []
/-- a classmethod -/
structure CalK (P : Program) (w : World) (c : Cn) (base : Heap) (k : Nat) (cn m : Str) (mf : List Ar → M D) : Prop where
  ex : ∃ (f : Addr) (fd : FuncData) (ps : List Str), AtC c cn (fun C => ∃ mc p0, ClX.CRead c.K C mc ∧ ClX.CMet c.K C mc m p0 f) ∧ FnG P w c.K c.mg base k f fd ps (spD c mf) ∧ Binds c.K fd ps []
/-- the making of an instance -/
structure CalI (P : Program) (w : World) (c : Cn) (base : Heap) (k : Nat) (cn : Str) (mf : List Ar → M (List (Str × D))) : Prop where
  ex : ∃ (f : Addr) (fd : FuncData) (ps : List Str), AtC c cn (fun C => Mk c.K C f) ∧ FnG P w c.K c.mg base k f fd ps (spI c cn mf) ∧ Binds c.K fd ps []
section
variable {P : Program} {w : World} {c : Cn} {base : Heap} {k j : Nat} {cn m : Str} {mf : List Ar → M D}
theorem CalM.mono (h : CalM P w c base j cn m mf) (l : j ≤ k) : CalM P w c base k cn m mf := by
  obtain ⟨f, fd, ps, a, b, d, e⟩ := h.ex
  exact ⟨f, fd, ps, a, ⟨b.ln, fun A fr s H us vs args Q E ga rm => b.go A fr s H us vs args Q E ga (rm.mono l)⟩, d, e⟩
theorem CalP.mono (h : CalP P w c base j cn m mf) (l : j ≤ k) : CalP P w c base k cn m mf := by
  obtain ⟨f, fd, ps, a, b, d⟩ := h.ex
  exact ⟨f, fd, ps, a, ⟨b.ln, fun A fr s H us vs args Q E ga rm => b.go A fr s H us vs args Q E ga (rm.mono l)⟩, d⟩
theorem CalK.mono (h : CalK P w c base j cn m mf) (l : j ≤ k) : CalK P w c base k cn m mf := by
  obtain ⟨f, fd, ps, a, b, d⟩ := h.ex
  exact ⟨f, fd, ps, a, ⟨b.ln, fun A fr s H us vs args Q E ga rm => b.go A fr s H us vs args Q E ga (rm.mono l)⟩, d⟩
theorem CalI.mono {mf : List Ar → M (List (Str × D))} (h : CalI P w c base j cn mf) (l : j ≤ k) : CalI P w c base k cn mf := by
  obtain ⟨f, fd, ps, a, b, d⟩ := h.ex
  exact ⟨f, fd, ps, a, ⟨b.ln, fun A fr s H us vs args Q E ga rm => b.go A fr s H us vs args Q E ga (rm.mono l)⟩, d⟩
end
section
variable {c : Cn} {X : Cx} {F : Fr} {W : WX} {ρ : List Sl} {k j : Nat} {cn m : Str} {mf : List Ar → M D}
theorem fnG_X {f : Addr} {fd : FuncData} {ps : List Str} {sp : Sp} (C : Ctx c X k) (h : FnG X.prog X.w c.K c.mg X.base j f fd ps sp) : FnG X.prog X.w X.K X.mg X.base j f fd ps sp := by rw [C.K, C.mg]; exact h
theorem de_propC {mo : M D} {pos : Pos} {o : Expr} (fn : CalP X.prog X.w c X.base j cn m mf) (C : Ctx c X k) (hj : j + 1 ≤ k) (ho : PE X o (rdE c F W ρ mo)) (hab : attributeBase o m X.env (eval o X.env) = eval o X.env := by rfl) :
    PE X (.Attribute o m pos) (rdE c F W ρ (mo >>= fun d => insP cn d >>= fun _ => noEx (mf [.v d]))) := by
  obtain ⟨f, fd, ps, a, b, d⟩ := fn.ex
  exact de_prop C hj ⟨a, fnG_X C b, d⟩ ho hab
theorem de_makeC {mi : List Ar → M (List (Str × D))} {ms : M (List Ar)} {x : Str} {p pos : Pos} {e : Expr} {es : List Expr} (fn : CalI X.prog X.w c X.base j cn mi) (C : Ctx c X k) (hj : j + 1 ≤ k) (tk : Takes X W) (hx : x = cn) (hg : Gl X x)
    (ha : PA X (e :: es) (rdA c F W ρ ms)) (hdb : (x == ("__debug__" : Str)) = false := by decide) (he : starEach (e :: es) X.env = (false, eval e X.env) :: starEach es X.env := by rfl) (hpl : (backTo pos (starEach es X.env)).any (·.1) = false := by rfl) :
    PE X (.Call (.Name x p) (e :: es) [] pos) (rdE c F W ρ (ms >>= fun as => mi as >>= fun fs => Pure.pure (.ins cn fs))) := by
  obtain ⟨f, fd, ps, a, b, d⟩ := fn.ex
  exact de_make (C.mono hj) tk a (fnG_X C b) hg hx d ha hdb he hpl
theorem eo_at {ρ' : List Sl} {i : Nat} {e : Expr} {m : M (D × List D)} (h : ρ = ρ') (k : PE X e (rdEO c F W ρ' i m)) : PE X e (rdEO c F W ρ i m) := by rw [h]; exact k
theorem l9z : ([] : List (Str × D)).length ≤ 0 := Nat.le_refl 0
theorem l9s {n : Nat} {f : Str} {v : D} : ∀ {fs : List (Str × D)}, fs.length ≤ n → (putA f v fs).length ≤ n + 1 := by
  have key : ∀ fs : List (Str × D), (putA f v fs).length ≤ fs.length + 1 := fun fs => by
    induction fs with
    | nil => exact Nat.le_refl _
    | cons p r ih =>
      obtain ⟨a, b⟩ := p
      unfold putA
      split
      · simp
      · simpa using ih
  exact fun {fs} h => Nat.le_trans (key fs) (Nat.succ_le_succ h)
theorem l9 {n : Nat} {fs : List (Str × D)} (h : fs.length ≤ n) (hn : n < 900 := by decide) : fs.length < 900 := Nat.lt_of_le_of_lt h hn
end
def doneI : Fl (List (Str × D)) → M (List (Str × D))
  | .nx a => Pure.pure a
  | _ => M.no
section
variable {P : Program} {w : World} {K : PySem.W.Frag} {mg : Str → Option Value} {base : Heap} {c : Cn}
theorem fnI_of2 {x qual x0 cn : Str} {st : Stmt} {f : Addr} {fd : FuncData} {N ps : List Str} {k : Nat} {mf : List Ar → M (List (Str × D))} (Fn : Fun K x qual st f fd) (hK : c.K = K) (hm : c.mg = mg) (S : FnScope (x0 :: N) ps (defScope st)) (len : ∀ as P ok ex, out (mf as) P ok ex → as.length + 1 = ps.length)
    (hbody : ∀ (cd : Value) (A : Around) (fr : List Env) (s : Shared) (H0 H1 G0 : Hp) (ap : Option Addr) (E : XK) (as : List Ar) (P0 : Pot) (ok : List (Str × D) → Pot → Prop) (ex : Ex → Pot → Prop), out (mf as) P0 ok ex → BodyX c (bX P w K mg base (x0 :: N) qual st f cd A fr s H0 E) k (fun cl dd _ H => E cl dd H) →
      ∃ (En : Addr → List (Str × D) → List Sl) (mb : M (Fl (List (Str × D)))), (∀ me a, (En me a)[0]? = some (.o (.i me cn a))) ∧ (∀ me, PSs (bX P w K mg base (x0 :: N) qual st f cd A fr s H0 E) (defBody st) (rdS c ⟨G0, H1, ap⟩ (fun cl dd _ H => E cl dd H) (slotsI me cn as (x0 :: N).length) (En me) mb)) ∧
        mf as = mb >>= doneI) :
    FnG P w K mg base (k + 1) f fd ps (spI c cn mf) := by
  refine fnI_of Fn hK hm S len fun cd A fr s H0 H1 G0 ap E as P0 ok ex h bx => ?_
  obtain ⟨En, mb, h1, h2, h3⟩ := hbody cd A fr s H0 H1 G0 ap E as P0 ok ex h bx
  refine ⟨_, En, fun a => a, mb, h1, h2, ?_⟩
  rw [h3]
  congr 1
  funext fl
  cases fl <;> rfl
end
/-- a def that is never reached keeps the promise that says nothing -/
theorem out_no {α : Type} {P : Pot} {ok : α → Pot → Prop} {ex : Ex → Pot → Prop} (h : out (M.no : M α) P ok ex) : False := h
end DL
namespace DL
open PySem PySem.Spec PyProof.Rows L2
end DL
namespace DL
open PySem PySem.Spec PyProof.Rows L2
section
variable {c : Cn} {X : Cx} {F : Fr} {W : WX} {ρ : List Sl} {α β : Type}
/-- d[k] = v as data -/
def putX {κ : Type} [DecidableEq κ] (ds : List (κ × D)) (k : κ) (v : D) : List (κ × D) :=
  if (ds.any fun kv => decide (kv.1 = k)) = true then ds.map (fun kv => if kv.1 = k then (kv.1, v) else kv) else ds ++ [(k, v)]
def getX {κ : Type} [DecidableEq κ] (ds : List (κ × D)) (k : κ) : Option D := (ds.find? fun kv => decide (kv.1 = k)).map (·.2)
section
variable {κ : Type} [DecidableEq κ]
def RepX (c : Cn) (G : Hp) (kvs : List (κ × V)) (ds : List (κ × D)) : Prop := kvs.map (·.1) = ds.map (·.1) ∧ c.reps G (kvs.map (·.2)) (ds.map (·.2))
theorem any_keysX {β γ : Type} (k : κ) : ∀ {kvs : List (κ × β)} {ds : List (κ × γ)}, kvs.map (·.1) = ds.map (·.1) → (kvs.any fun kv => decide (kv.1 = k)) = ds.any fun kv => decide (kv.1 = k)
  | [], [], _ => rfl
  | [], _ :: _, h => by simp at h
  | _ :: _, [], h => by simp at h
  | p :: r, q :: s, h => by
    simp only [List.map_cons, List.cons.injEq] at h
    rw [List.any_cons, List.any_cons, h.1, any_keysX k h.2]
theorem put_mapX {G : Hp} {k : κ} {v : V} {d : D} (r : c.rep G v d) : ∀ {kvs : List (κ × V)} {ds : List (κ × D)}, RepX c G kvs ds → RepX c G (kvs.map fun kv => if kv.1 = k then (kv.1, v) else kv) (ds.map fun kv => if kv.1 = k then (kv.1, d) else kv)
  | [], [], _ => ⟨rfl, Reps.nil⟩
  | [], _ :: _, h => by have := h.1; simp at this
  | _ :: _, [], h => by have := h.1; simp at this
  | p :: kvs, q :: ds, h => by
    obtain ⟨h1, h2⟩ := h
    simp only [List.map_cons, List.cons.injEq] at h1
    have ih := put_mapX (k := k) r (kvs := kvs) (ds := ds) ⟨h1.2, Reps.tail h2⟩
    have hd : c.rep G p.2 q.2 := Reps.head h2
    refine ⟨?_, ?_⟩
    · simp only [List.map_cons, List.cons.injEq]
      refine ⟨?_, ih.1⟩
      rw [h1.1]
      split <;> simp [h1.1]
    · simp only [List.map_cons]
      refine Reps.cons ?_ ih.2
      rw [h1.1]
      split
      · exact r
      · exact hd
theorem RepX.put {G : Hp} {k : κ} {v : V} {d : D} (r : c.rep G v d) {kvs : List (κ × V)} {ds : List (κ × D)} (h : RepX c G kvs ds) : RepX c G (if (kvs.any fun kv => decide (kv.1 = k)) = true then kvs.map (fun kv => if kv.1 = k then (kv.1, v) else kv) else kvs ++ [(k, v)]) (putX ds k d) := by
  unfold putX
  rw [any_keysX k h.1]
  split
  · exact put_mapX r h
  · refine ⟨by simp [h.1], ?_⟩
    rw [List.map_append, List.map_append]
    exact h.2.append (Reps.cons r Reps.nil)
theorem RepX.get {G : Hp} {k : κ} {d : D} : ∀ {kvs : List (κ × V)} {ds : List (κ × D)}, RepX c G kvs ds → getX ds k = some d → ∃ v, ((kvs.find? fun kv => decide (kv.1 = k)).map (·.2)) = some v ∧ c.rep G v d
  | [], [], _, h => by cases h
  | [], _ :: _, h, _ => by have := h.1; simp at this
  | _ :: _, [], h, _ => by have := h.1; simp at this
  | p :: kvs, q :: ds, ⟨h1, h2⟩, h => by
    simp only [List.map_cons, List.cons.injEq] at h1
    unfold getX at h
    rw [List.find?_cons] at h ⊢
    rw [h1.1]
    by_cases z : q.1 = k
    · rw [decide_eq_true z] at h ⊢
      simp only [Option.map_some, Option.some.injEq] at h
      subst h
      exact ⟨_, rfl, Reps.head h2⟩
    · rw [decide_eq_false z] at h ⊢
      exact RepX.get (kvs := kvs) (ds := ds) ⟨h1.2, Reps.tail h2⟩ h
theorem RepX.len {G : Hp} {kvs : List (κ × V)} {ds : List (κ × D)} (h : RepX c G kvs ds) : kvs.length = ds.length := by
  have := congrArg List.length h.1
  simpa using this
theorem RepX.mono {G G' : Hp} (e : Ext G G') {kvs : List (κ × V)} {ds : List (κ × D)} (h : RepX c G kvs ds) : RepX c G' kvs ds := ⟨h.1, h.2.mono e⟩
end
end
end DL
namespace DL
open PySem PySem.Spec PyProof.Rows L2
section
variable {c : Cn} {X : Cx} {F : Fr} {W : WX} {ρ : List Sl} {α β : Type}
def dicT (ds : List (List Key × D)) : D := .dic (ds.map fun p => (.tup (p.1.map keyD), p.2))
end
end DL
namespace DL
open PySem PySem.Spec PyProof.Rows L2
end DL
namespace DL
open PySem PySem.Spec PyProof.Rows L2
end DL
namespace DL
open PySem PySem.Spec PyProof.Rows L2
end DL
namespace DL
open PySem PySem.Spec PyProof.Rows L2
section
variable {c : Cn} {X : Cx} {F : Fr} {W : WX} {ρ : List Sl}
def addL : D → D → M (List D)
  | .lst xs, .lst ys => if xs.length + ys.length ≤ sizeLine then Pure.pure (xs ++ ys) else M.no
  | _, _ => M.no
/-- x = e + f, lists -/
theorem ds_ownAdd {i : Nat} {y : Str} {py spos pos : Pos} {a b : Expr} {ma mb : M D} (hN : X.N.Nodup) (hi : X.N[i]? = some y) (hx : Loc X.env.scope y) (ha : PE X a (rdE c F W ρ ma)) (hb : PE X b (rdE c F W ρ mb))
    (hs : swapsWith (.BinOp a .Add b pos) (some (.Name y py)) spos.line X.env = pure false := by rfl) (hf : X.fn y = true ∨ X.env.scope.names.lookup y = some .local := by first | exact .inl rfl | exact .inr rfl | assumption) :
    PS X (.Assign [.Name y py] (.BinOp a .Add b pos) spos) (rdS c F W ρ (fun ds => ρ.set i (.o (.l ds))) ((ma >>= fun x => mb >>= fun y => addL x y) >>= fun ds => Pure.pure (.nx ds))) := by
  refine ds_ownCall hN hi hx (pe_op opr_add ha hb) (fun σ H Q ⟨P, G, R, q⟩ => ?_) hs hf
  refine ⟨P, G, R, out_mono (out_bind.mp q) (fun x P1 q1 v H1 G1 e1 R1 r1 => ?_) fun _ _ z => z⟩
  refine ⟨P1, G1, R1, out_mono (out_bind.mp q1) (fun y P2 q2 u H2 G2 e2 R2 r2 => ?_) fun _ _ z => exW_le e1 z⟩
  replace r1 := r1.mono e2
  cases x <;> cases y <;> try exact q2.elim
  rename_i xs ys
  unfold addL at q2
  by_cases z : xs.length + ys.length ≤ sizeLine
  · simp only [if_pos z] at q2
    have q3 : ∀ H' G' p vs, Ext G G' → Rel c F ρ P2 σ H' G' → H' p = none → c.reps G' vs (xs ++ ys) → Q (.ref p) (upd H' p (.lst vs)) := q2
    cases r1 with
    | lst ha hl hr =>
      cases r2 with
      | lst hb hl2 hr2 =>
        have rr : c.reps G2 _ (xs ++ ys) := Reps.append ⟨hl, hr⟩ ⟨hl2, hr2⟩
        exact .inr (.inl ⟨_, _, _, _, rfl, rfl, R2.post.le _ _ ha, R2.post.le _ _ hb, by rw [hl, hl2]; exact z, fun p hp => q3 _ _ _ _ (e1.trans e2) R2 hp rr⟩)
  · simp only [if_neg z] at q2; exact q2.elim
end
end DL
namespace DL
open PySem PySem.Spec PyProof.Rows L2
end DL
namespace DL
open PySem PySem.Spec PyProof.Rows L2
end DL
namespace DL
open PySem PySem.Spec PyProof.Rows L2
end DL
namespace DL
open PySem PySem.Spec PyProof.Rows L2
abbrev zipR {β : Type} (kvs : List (Key × β)) (bs : List Addr) : List (Key × V) := List.zipWith (fun kv b => (kv.1, V.ref b)) kvs bs
structure Deep (c : Cn) (F : Fr) (G H : Hp) (a : Addr) (kvs : List (Key × List D)) : Prop where
  ex : ∃ bs : List Addr, bs.length = kvs.length ∧ bs.Nodup ∧ H a = some (.dK (zipR kvs bs)) ∧
    ∀ (i : Nat) (kv : Key × List D) (b : Addr), kvs[i]? = some kv → bs[i]? = some b → (∃ vs, H b = some (.lst vs) ∧ c.reps G vs kv.2) ∧ G b = none ∧ Fre F.H0 b ∧ some b ≠ F.ap
  nd : (kvs.map (·.1)).Nodup
  g : G a = none
  h : Fre F.H0 a
  p : some a ≠ F.ap
section
variable {c : Cn} {X : Cx} {F : Fr} {W : WX} {ρ : List Sl}
theorem Post.still {ap : Option Addr} {G H G' H' : Hp} {P : Pot} {a : Addr} {o : HO} (q : Post c ap G H P G' H') (ha : H a = some o) (nt : noTbl o) (ntp : ∀ vs, o ≠ .tup vs) (hg : G a = none) (na : some a ≠ ap) : H' a = some o ∧ G' a = none := by
  have hh := q.fr a o ha na nt
  refine ⟨hh, ?_⟩
  cases z : G' a with
  | none => rfl
  | some u =>
    rcases q.new a (by rw [z]; simp) with h | h | ⟨vs, h⟩
    · exact absurd hg h
    · exact (h.no ha nt).elim
    · have y := q.le _ _ h
      rw [hh] at y
      cases y
      exact absurd rfl (ntp vs)
theorem Deep.after {P : Pot} {G H G' H' : Hp} {a : Addr} {kvs : List (Key × List D)} (d : Deep c F G H a kvs) (q : Post c F.ap G H P G' H') : Deep c F G' H' a kvs := by
  obtain ⟨⟨bs, hl, hn, ha, hb⟩, nd, g, h, p⟩ := d
  obtain ⟨ha', g'⟩ := q.still ha nt_dK nofun g p
  refine ⟨⟨bs, hl, hn, ha', fun i kv b h1 h2 => ?_⟩, nd, g', h, p⟩
  obtain ⟨⟨vs, k1, k2⟩, k3, k4, k5⟩ := hb i kv b h1 h2
  obtain ⟨k1', k3'⟩ := q.still k1 nt_lst nofun k3 k5
  exact ⟨⟨vs, k1', k2.mono q.ext⟩, k3', k4, k5⟩
theorem find_of {β : Type} : ∀ {ws : List (Key × β)} {j : Nat} {k : Key} {v : β}, (ws.map (·.1)).Nodup → ws[j]? = some (k, v) → (ws.find? fun kv => decide (kv.1 = k)).map (·.2) = some v
  | [], _, _, _, _, h => by simp at h
  | p :: ws, 0, k, v, _, h => by
    simp only [List.getElem?_cons_zero, Option.some.injEq] at h
    subst h
    simp
  | p :: ws, j + 1, k, v, nd, h => by
    rw [List.getElem?_cons_succ] at h
    rw [List.map_cons, List.nodup_cons] at nd
    have ne : p.1 ≠ k := fun z => nd.1 (by rw [z]; exact List.mem_map.mpr ⟨(k, v), List.mem_of_getElem? h, rfl⟩)
    rw [List.find?_cons, decide_eq_false ne]
    exact find_of nd.2 h
theorem find_at {β : Type} {ws : List (Key × β)} {k : Key} {v : β} (h : (ws.find? fun kv => decide (kv.1 = k)).map (·.2) = some v) : ∃ j : Nat, ws[j]? = some (k, v) := by
  rw [Option.map_eq_some_iff] at h
  obtain ⟨kv, h, rfl⟩ := h
  have hk := List.find?_some h
  obtain ⟨j, hj⟩ := List.mem_iff_getElem?.mp (List.mem_of_find?_eq_some h)
  exact ⟨j, by rw [hj]; have : kv.1 = k := by simpa using hk
               rw [← this]⟩
theorem zipR_keys {β : Type} : ∀ {kvs : List (Key × β)} {bs : List Addr}, bs.length = kvs.length → (zipR kvs bs).map (·.1) = kvs.map (·.1)
  | [], [], _ => rfl
  | [], _ :: _, h => by simp at h
  | _ :: _, [], h => by simp at h
  | p :: kvs, b :: bs, h => by
    have := zipR_keys (kvs := kvs) (bs := bs) (by simpa using h)
    simp only [zipR, List.zipWith_cons_cons, List.map_cons] at this ⊢
    rw [this]
theorem zipR_at {β : Type} {kvs : List (Key × β)} {bs : List Addr} {i : Nat} {kv : Key × β} {b : Addr} (h1 : kvs[i]? = some kv) (h2 : bs[i]? = some b) : (zipR kvs bs)[i]? = some (kv.1, .ref b) := by
  unfold zipR
  rw [List.getElem?_zipWith, h1, h2]
theorem nodup_at {α : Type} {xs : List α} (h : xs.Nodup) {i j : Nat} {x : α} (h1 : xs[i]? = some x) (h2 : xs[j]? = some x) : i = j := by
  exact (List.getElem?_inj (List.getElem?_eq_some_iff.mp h1).1 h).mp (h1.trans h2.symm)
/-- d[k] -/
theorem Deep.get {G H : Hp} {a : Addr} {kvs : List (Key × List D)} (d : Deep c F G H a kvs) {k : Key} {ds : List D} (h : (kvs.find? fun kv => decide (kv.1 = k)).map (·.2) = some ds) :
    ∃ b vs, DGet H a (kV k) (some (.ref b)) ∧ H b = some (.lst vs) ∧ c.reps G vs ds ∧
      ∀ vs' ds', c.reps G vs' ds' → Deep c F G (upd H b (.lst vs')) a (kvs.map fun kv => if kv.1 = k then (kv.1, ds') else kv) ∧ (∀ {P σ}, (∀ (i : Nat) k, ρ[i]? ≠ some (.o k)) → Rel c F ρ P σ H G → Rel c F ρ P σ (upd H b (.lst vs')) G) := by
  obtain ⟨⟨bs, hl, hn, ha, hb⟩, nd, g, h0, p⟩ := d
  obtain ⟨j, hj⟩ := find_at h
  have jl : j < bs.length := by rw [hl]; exact (List.getElem?_eq_some_iff.mp hj).1
  have ej : bs[j]? = some bs[j] := List.getElem?_eq_getElem jl
  obtain ⟨⟨vs, k1, k2⟩, k3, k4, k5⟩ := hb j _ _ hj ej
  have nab : a ≠ bs[j] := fun z => by rw [z, k1] at ha; cases ha
  refine ⟨bs[j], vs, .inl ⟨_, k, .of ha, rfl, (find_of (by rw [zipR_keys hl]; exact nd) (zipR_at hj ej)).symm⟩, k1, k2, fun vs' ds' r => ⟨⟨⟨bs, by simpa using hl, hn, ?_, fun i kv b h1 h2 => ?_⟩, ?_, g, h0, p⟩, fun {P σ} no R => ?_⟩⟩
  · rw [upd_ne nab, ha]
    congr 2
    unfold zipR
    rw [List.zipWith_map_left]
    congr 1
    funext kv b
    split <;> rfl
  · rw [List.getElem?_map, Option.map_eq_some_iff] at h1
    obtain ⟨kv0, h1, rfl⟩ := h1
    obtain ⟨⟨ws, m1, m2⟩, m3, m4, m5⟩ := hb i kv0 b h1 h2
    by_cases z : i = j
    · subst z
      rw [hj] at h1
      cases h1
      rw [ej] at h2
      cases h2
      refine ⟨⟨vs', upd_same, ?_⟩, k3, k4, k5⟩
      simpa using r
    · have nb : b ≠ bs[j] := fun q => z (nodup_at hn h2 (by rw [q]; exact ej))
      have nk : kv0.1 ≠ k := fun q => z (nodup_at nd (by rw [List.getElem?_map, h1]; exact congrArg some q) (by rw [List.getElem?_map, hj]; rfl))
      rw [if_neg nk]
      exact ⟨⟨ws, by rw [upd_ne nb]; exact m1, m2⟩, m3, m4, m5⟩
  · have : (kvs.map fun kv => if kv.1 = k then (kv.1, ds') else kv).map (·.1) = kvs.map (·.1) := by
      rw [List.map_map]
      apply List.map_congr_left
      intro kv _
      show (if kv.1 = k then (kv.1, ds') else kv).1 = kv.1
      split <;> rfl
    rw [this]; exact nd
  · exact R.at k3 k4 k5 (fun u e => by rw [k1] at e; cases e; exact ⟨nofun, nofun⟩) fun i kk hi => absurd hi (no i kk)
/-- a new list more -/
theorem Deep.push {G H : Hp} {P : Pot} {σ : L2.St} {a q : Addr} {kvs : List (Key × List D)} {k : Key} {vs : List V} {ds : List D} (R : Rel c F ρ P σ H G) (d : Deep c F G H a kvs) (hq : H q = none) (r : c.reps G vs ds) (hk : k ∉ kvs.map (·.1)) :
    ∃ ws, upd H q (.lst vs) a = some (.dK ws) ∧ ws.length = kvs.length ∧ Deep c F G (upd (upd H q (.lst vs)) a (.dK (putK ws k (.ref q)))) a (kvs ++ [(k, ds)]) := by
  obtain ⟨⟨bs, hl, hn, ha, hb⟩, nd, g, h0, p⟩ := d
  have nqa : a ≠ q := fun z => by rw [z, hq] at ha; cases ha
  have nin : ∀ b, b ∈ bs → b ≠ q ∧ b ≠ a := fun b hb' => by
    obtain ⟨i, hi⟩ := List.mem_iff_getElem?.mp hb'
    have il : i < kvs.length := by rw [← hl]; exact (List.getElem?_eq_some_iff.mp hi).1
    obtain ⟨⟨ws, m1, _⟩, _⟩ := hb i _ b (List.getElem?_eq_getElem il) hi
    exact ⟨fun z => (by rw [z, hq] at m1; cases m1), fun z => (by rw [z, ha] at m1; cases m1)⟩
  have lz : (zipR kvs bs).length = kvs.length := by unfold zipR; rw [List.length_zipWith, hl, Nat.min_self]
  refine ⟨_, by rw [upd_ne nqa]; exact ha, lz, ⟨bs ++ [q], by simp [hl], ?_, ?_, fun i kv b h1 h2 => ?_⟩, ?_, g, h0, p⟩
  · rw [List.nodup_append]
    refine ⟨hn, by simp, fun x hx y hy => ?_⟩
    rw [List.mem_singleton.mp hy]
    exact (nin x hx).1
  · rw [upd_same]
    have hz : ((zipR kvs bs).any fun kv => decide (kv.1 = k)) = false := by
      rw [List.any_eq_false]
      intro kv hkv z
      have : kv.1 = k := by simpa using z
      refine hk ?_
      rw [← zipR_keys hl, ← this]
      exact List.mem_map.mpr ⟨kv, hkv, rfl⟩
    unfold putK
    rw [hz, if_neg (by simp)]
    congr 2
    unfold zipR
    rw [List.zipWith_append hl.symm]
    rfl
  · by_cases z : i < kvs.length
    · rw [List.getElem?_append_left z] at h1
      rw [List.getElem?_append_left (by rw [hl]; exact z)] at h2
      obtain ⟨⟨ws, m1, m2⟩, m3⟩ := hb i kv b h1 h2
      obtain ⟨n1, n2⟩ := nin b (List.mem_of_getElem? h2)
      exact ⟨⟨ws, by rw [upd_ne n2, upd_ne n1]; exact m1, m2⟩, m3⟩
    · have e : i = kvs.length := by
        have := (List.getElem?_eq_some_iff.mp h1).1
        simp at this
        omega
      subst e
      rw [List.getElem?_append_right (Nat.le_refl _), Nat.sub_self] at h1
      rw [List.getElem?_append_right (Nat.le_of_eq hl), hl, Nat.sub_self] at h2
      cases h1
      cases h2
      exact ⟨⟨vs, by rw [upd_ne (Ne.symm nqa), upd_same], r⟩, R.post.g_none hq, R.post.h0 hq, R.ne_ap hq⟩
  · rw [List.map_append, List.nodup_append]
    refine ⟨nd, by simp, fun x hx y hy => ?_⟩
    have : y = k := by simpa using hy
    rw [this]
    exact fun z => hk (by rw [← z]; exact hx)
/-- all of them are let go -/
theorem freezeL {P : Pot} {σ : L2.St} {H : Hp} (no : ∀ (i : Nat) k, ρ[i]? ≠ some (.o k)) : ∀ (bs : List Addr) {G : Hp}, Rel c F ρ P σ H G → bs.Nodup → (∀ b, b ∈ bs → (∃ vs, H b = some (.lst vs)) ∧ G b = none ∧ Fre F.H0 b ∧ some b ≠ F.ap) →
    ∃ G', Ext G G' ∧ Rel c F ρ P σ H G' ∧ (∀ b, b ∈ bs → G' b = H b) ∧ ∀ b, b ∉ bs → G' b = G b
  | [], G, R, _, _ => ⟨G, Ext.refl _, R, fun _ h => by simp at h, fun _ _ => rfl⟩
  | b :: bs, G, R, nd, h => by
    obtain ⟨⟨vs, h1⟩, h2, h3, h4⟩ := h b List.mem_cons_self
    rw [List.nodup_cons] at nd
    obtain ⟨R1, e1⟩ := R.freeze h1 nt_lst h3 h4 (fun i kk hi => absurd hi (no i kk)) h2
    obtain ⟨G', e2, R2, k1, k2⟩ := freezeL no bs R1 nd.2 fun x hx => by
      obtain ⟨a1, a2, a3⟩ := h x (List.mem_cons_of_mem _ hx)
      exact ⟨a1, by rw [upd_ne (fun z => nd.1 (by rw [← z]; exact hx))]; exact a2, a3⟩
    refine ⟨G', e1.trans e2, R2, fun x hx => ?_, fun x hx => ?_⟩
    · rcases List.mem_cons.mp hx with z | z
      · rw [z, k2 b nd.1, upd_same, h1]
      · exact k1 x z
    · rw [k2 x fun z => hx (List.mem_cons_of_mem _ z), upd_ne fun z => hx (by rw [z]; exact List.mem_cons_self)]
def dicL (kvs : List (Key × List D)) : D := dicD (kvs.map fun kv => (kv.1, .lst kv.2))
theorem Deep.letgo {P : Pot} {σ : L2.St} {G H : Hp} {a : Addr} {kvs : List (Key × List D)} (no : ∀ (i : Nat) k, ρ[i]? ≠ some (.o k)) (R : Rel c F ρ P σ H G) (d : Deep c F G H a kvs) : ∃ G', Ext G G' ∧ Rel c F ρ P σ H G' ∧ c.rep G' (.ref a) (dicL kvs) := by
  obtain ⟨⟨bs, hl, hn, ha, hb⟩, nd, g, h0, p⟩ := d
  have at' : ∀ b, b ∈ bs → ∃ i kv, kvs[i]? = some kv ∧ bs[i]? = some b := fun b hb' => by
    obtain ⟨i, hi⟩ := List.mem_iff_getElem?.mp hb'
    have il : i < kvs.length := by rw [← hl]; exact (List.getElem?_eq_some_iff.mp hi).1
    exact ⟨i, _, List.getElem?_eq_getElem il, hi⟩
  obtain ⟨G1, e1, R1, k1, k2⟩ := freezeL no bs R hn fun b hb' => by
    obtain ⟨i, kv, h1, h2⟩ := at' b hb'
    obtain ⟨⟨vs, m1, _⟩, m2⟩ := hb i kv b h1 h2
    exact ⟨⟨vs, m1⟩, m2⟩
  have na : a ∉ bs := fun z => by
    obtain ⟨i, kv, h1, h2⟩ := at' a z
    obtain ⟨⟨vs, m1, _⟩, m2⟩ := hb i kv a h1 h2
    rw [ha] at m1; cases m1
  obtain ⟨R2, e2⟩ := R1.freeze ha nt_dK h0 p (fun i kk hi => absurd hi (no i kk)) (by rw [k2 a na]; exact g)
  refine ⟨_, e1.trans e2, R2, .dicK upd_same ?_ fun i kv dv h1 h2 => ?_⟩
  · have : (zipR kvs bs).map (fun p => keyD p.1) = ((zipR kvs bs).map (·.1)).map keyD := by rw [List.map_map]; rfl
    rw [this, zipR_keys hl, List.map_map, List.map_map, List.map_map]
    rfl
  · rw [List.map_map, List.getElem?_map, Option.map_eq_some_iff] at h2
    obtain ⟨q, h2, rfl⟩ := h2
    have il : i < bs.length := by rw [hl]; exact (List.getElem?_eq_some_iff.mp h2).1
    have hi : bs[i]? = some bs[i] := List.getElem?_eq_getElem il
    rw [zipR_at h2 hi] at h1
    cases h1
    obtain ⟨⟨vs, m1, m2⟩, _⟩ := hb i q _ h2 hi
    have mem : bs[i] ∈ bs := List.mem_of_getElem? hi
    refine .lst (vs := vs) (e2 _ _ (by rw [k1 _ mem]; exact m1)) m2.1 fun j v d x y => (m2.2 j v d x y).mono (e1.trans e2)
end
end DL
namespace DL
open PySem PySem.Spec PyProof.Rows L2
end DL
namespace DL
open PySem PySem.Spec PyProof.Rows L2
end DL
namespace DL
open PySem PySem.Spec PyProof.Rows L2
end DL
namespace DL
open PySem PySem.Spec PyProof.Rows L2
end DL
namespace DL
open PySem PySem.Spec PyProof.Rows L2
end DL
namespace DL
open PySem PySem.Spec PyProof.Rows L2
def keyIs : D → Key → Bool
  | .int i, .inl j => decide (i = j)
  | .str x, .inr y => decide (x = y)
  | _, _ => false
theorem keyIs_keyD (k j : Key) : keyIs (keyD k) j = decide (k = j) := by
  cases k <;> cases j <;> simp [keyIs, keyD]
def keyV : D → Option Key
  | .int i => some (.inl i)
  | .str x => some (.inr x)
  | _ => none
def getD (kvs : List (D × D)) (k : Key) : Option D := (kvs.find? fun p => keyIs p.1 k).map (·.2)
section
variable {c : Cn} {X : Cx} {F : Fr} {W : WX} {ρ : List Sl}
theorem getD_rep {G : Hp} {k : Key} {d : D} : ∀ {kvs : List (Key × V)} {ds : List (D × D)}, kvs.map (fun p => keyD p.1) = ds.map (·.1) → c.reps G (kvs.map (·.2)) (ds.map (·.2)) → getD ds k = some d → ∃ v, valV kvs k = some v ∧ c.rep G v d
  | [], [], _, _, h => by cases h
  | [], _ :: _, h, _, _ => by simp at h
  | _ :: _, [], h, _, _ => by simp at h
  | p :: kvs, q :: ds, h1, h2, h => by
    simp only [List.map_cons, List.cons.injEq] at h1
    unfold getD at h
    unfold valV
    rw [List.find?_cons] at h ⊢
    rw [← h1.1, keyIs_keyD] at h
    by_cases z : p.1 = k
    · rw [decide_eq_true z] at h ⊢
      simp only [Option.map_some, Option.some.injEq] at h
      subst h
      exact ⟨_, rfl, Reps.head h2⟩
    · rw [decide_eq_false z] at h ⊢
      exact getD_rep (kvs := kvs) (ds := ds) h1.2 (Reps.tail h2) h
theorem keyV_rep {G : Hp} {y : D} {k : Key} {u : V} (h : keyV y = some k) (r : c.rep G u y) : u = kV k := by
  cases y with
  | int i => cases h; exact r.int_of
  | str x => cases h; exact r.str_of
  | _ => cases h
end
end DL
namespace DL
open PySem PySem.Spec PyProof.Rows L2
theorem hu_1 {n : Nat} (h : n + 64 < cLine) : n + 1 < cLine := by omega
end DL
namespace DL
open PySem PySem.Spec PyProof.Rows L2
end DL
namespace DL
open PySem PySem.Spec PyProof.Rows L2
end DL
namespace DL
open PySem PySem.Spec PyProof.Rows L2
end DL
namespace DL
open PySem PySem.Spec PyProof.Rows L2
end DL
namespace DL
open PySem PySem.Spec PyProof.Rows L2
end DL
namespace DL
open PySem PySem.Spec PyProof.Rows L2
end DL
namespace DL
open PySem PySem.Spec PyProof.Rows L2
end DL
namespace DL
open PySem PySem.Spec PyProof.Rows L2
end DL
namespace DL
open PySem PySem.Spec PyProof.Rows L2
end DL
namespace DL
open PySem PySem.Spec PyProof.Rows L2
end DL
namespace DL
open PySem PySem.Spec PyProof.Rows L2
section
variable {c : Cn} {F : Fr} {W : WX} {ρ : List Sl} {X : Cx}
theorem Rel.up {G2 H2 : Hp} {ρ1 : List Sl} {P : Pot} {σ : L2.St} {H G : Hp} (R : Rel c ⟨G2, H2, F.ap⟩ ρ1 P σ H G) (p : Post c F.ap F.G0 F.H0 P G H) : Rel c F (ρ1.map unO) P σ H G := by
  have no : ∀ (i : Nat) k, (ρ1.map unO)[i]? ≠ some (.o k) := fun i k e => by
    rw [List.getElem?_map] at e
    cases h : ρ1[i]? with
    | none => rw [h] at e; cases e
    | some s => rw [h] at e; cases s <;> cases e
  refine ⟨p, by simpa using R.len, fun i s x a b => ?_, fun i j k k' a h1 _ _ _ => absurd h1 (no i k)⟩
  rw [List.getElem?_map] at a
  cases h : ρ1[i]? with
  | none => rw [h] at a; cases a
  | some s' =>
    rw [h] at a
    have z := R.sl i s' x h b
    cases s' <;> cases a
    · exact True.intro
    · exact z
    · exact True.intro
    · exact z
end
end DL
namespace DL
open PySem PySem.Spec PyProof.Rows L2
end DL
namespace DL
open PySem PySem.Spec PyProof.Rows L2
end DL
namespace DL
open PySem PySem.Spec PyProof.Rows L2
end DL
namespace DL
open PySem PySem.Spec PyProof.Rows L2
section
variable {c : Cn} {X : Cx}
def reprE : D → M D
  | .int i => strD (.int i)
  | d => reprD d
def rReprE (K : PySem.W.Frag) : V → Hp → VK → Prop := fun v H Q => rRepr K v H Q ∨ ∃ i, v = .int i ∧ i.natAbs.log2 < 1920 ∧ Q (.str (toString i)) H
theorem cr_reprE (hg : X.A.guards = some []) (hu : X.A.units + 102 < cLine) : CallR X (.builtin "repr") (fun xs H Q => ∃ v, xs = [v] ∧ rReprE X.K v H Q) := CallR.by (CallR.or (cr_repr hg hu) SkE.call_repr_int) fun xs H Q ⟨v, e, h⟩ => by
  subst e
  rcases h with h | ⟨i, rfl, h⟩
  · exact .inl ⟨v, rfl, h⟩
  · exact .inr ⟨i, rfl, h⟩
theorem cd_reprE : CallD c (fun xs H Q => ∃ v, xs = [v] ∧ rReprE c.K v H Q) (f1 reprE) := by
  intro F ρ W P σ H G vs ds Q R rs q
  match ds, q with
  | [d], q =>
    obtain ⟨v, rfl, rv⟩ := rs.one
    refine ⟨v, rfl, ?_⟩
    have old : ∀ d, c.rep G v d → out (reprD d) P (fun d P' => ∀ v H' G', Ext G G' → Rel c F ρ P' σ H' G' → c.rep G' v d → Q v H') (exW c F W P G σ) → rRepr c.K v H Q := fun d r z => by
      have := cd_repr (c := c) F ρ W P σ H G [v] [d] Q R (Reps.cons r Reps.nil) z
      obtain ⟨u, e, h⟩ := this
      injection e with e _
      subst e
      exact h
    cases d with
    | int i =>
      have q : out (if i.natAbs.log2 < 1920 then Pure.pure (D.str (Str.ofString (toString i))) else M.no) P _ _ := q
      by_cases z : i.natAbs.log2 < 1920
      · rw [if_pos z] at q
        exact .inr ⟨i, rv.int_of, z, q _ H G (Ext.refl _) R (.str _)⟩
      · rw [if_neg z] at q; exact q.elim
    | _ => exact .inl (old _ rv q)
  | [], q => exact q.elim
  | _ :: _ :: _, q => exact q.elim
end
end DL
namespace DL
open PySem PySem.Spec PyProof.Rows L2
end DL
namespace DL
open PySem PySem.Spec PyProof.Rows L2
section
variable {c : Cn} {X : Cx}
theorem call_repr_bool : CallR X (.builtin "repr") (fun xs H Q => ∃ b, xs = [.bl b] ∧ Q (.str (if b then "True" else "False")) H) := by
  intro pins s σ H xs us Q I r h
  obtain ⟨b, rfl, q⟩ := h
  obtain ⟨u, rfl, ru⟩ := vals1 r
  cases ru
  exact PySem.P.repr_of_bool ⟨.str _, H, I.tok _, ⟨_, rfl⟩, q⟩
def reprB : D → M D
  | .bl b => Pure.pure (.str (if b then "True" else "False"))
  | d => reprE d
def rReprB (K : PySem.W.Frag) : V → Hp → VK → Prop := fun v H Q => rReprE K v H Q ∨ ∃ b, v = .bl b ∧ Q (.str (if b then "True" else "False")) H
theorem cr_reprB (hg : X.A.guards = some []) (hu : X.A.units + 102 < cLine) : CallR X (.builtin "repr") (fun xs H Q => ∃ v, xs = [v] ∧ rReprB X.K v H Q) := CallR.by (CallR.or (cr_reprE hg hu) call_repr_bool) fun xs H Q ⟨v, e, h⟩ => by
  subst e
  rcases h with h | ⟨i, rfl, h⟩
  · exact .inl ⟨v, rfl, h⟩
  · exact .inr ⟨i, rfl, h⟩
theorem cd_reprB : CallD c (fun xs H Q => ∃ v, xs = [v] ∧ rReprB c.K v H Q) (f1 reprB) := by
  intro F ρ W P σ H G vs ds Q R rs q
  match ds, q with
  | [d], q =>
    obtain ⟨v, rfl, rv⟩ := rs.one
    refine ⟨v, rfl, ?_⟩
    have old : ∀ d, c.rep G v d → out (reprE d) P (fun d P' => ∀ v H' G', Ext G G' → Rel c F ρ P' σ H' G' → c.rep G' v d → Q v H') (exW c F W P G σ) → rReprE c.K v H Q := fun d r z => by
      have := cd_reprE (c := c) F ρ W P σ H G [v] [d] Q R (Reps.cons r Reps.nil) z
      obtain ⟨u, e, h⟩ := this
      injection e with e _
      subst e
      exact h
    cases d with
    | bl b =>
      cases rv
      exact .inr ⟨b, rfl, q _ H G (Ext.refl _) R (.str _)⟩
    | _ => exact .inl (old _ rv q)
  | [], q => exact q.elim
  | _ :: _ :: _, q => exact q.elim
theorem readsInts {h : Heap} : ∀ {ns : List Int} {us : List Value}, Vals (ns.map V.int) us → ReadsAll h us (ns.map PyData.int) []
  | [], us, r => by
    cases us with
    | nil => exact .nil
    | cons _ _ => have := r.length; simp at this
  | i :: ns, us, r => by
    cases us with
    | nil => have := r.length; simp at this
    | cons u us =>
      rcases r with _ | ⟨ru, rs⟩
      obtain ⟨t, rfl⟩ := ru
      exact .cons (as := []) (bs := []) (.int i t) (readsInts rs)
end
end DL
namespace DL
open PySem PySem.Spec PyProof.Rows L2
section
variable {c : Cn} {X : Cx}
structure SubD (X : Cx) (n : Nat) (A : Around) : Prop where
  sb : Sub X n A
  ga : GA A
theorem SubD.in1 {n : Nat} {A : Around} (h : SubD X (n + 1) A) : SubD X n A.in1 := ⟨h.sb.in1, by exact h.ga⟩
theorem SubD.mono {n m : Nat} {A : Around} (h : SubD X m A) (l : n ≤ m) : SubD X n A := ⟨h.sb.mono l, h.ga⟩
/-- == gives True for what T says -/
def EqR (c : Cn) (X : Cx) (n : Nat) (T : D → D → Prop) : Prop :=
  ∀ (ap : Option Addr) (G : Hp) (P : Pot) (A : Around) (pins : List (Addr × Obj)) (s : Shared) (σ : L2.St) (H : Hp) (x y : V) (u v : Value) (d e : D), SubD X n A → Inv X pins σ H s → Post c ap G H P G H → RelV x u → RelV y v → c.rep G x d → c.rep G y e → T d e →
    wpAny (model X.prog X.w) A (eqBool u v) (fun r s' => r = true ∧ ∃ H' G', Inv X pins σ H' s' ∧ Post c ap G H P G' H') X.xe s
variable {n m j : Nat} {T T' : D → D → Prop}
theorem EqR.mono (h : EqR c X n T) (l : n ≤ m) : EqR c X m T := fun ap G P A pins s σ H x y u v d e sb => h ap G P A pins s σ H x y u v d e (sb.mono l)
theorem EqR.or (h : EqR c X n T) (h' : EqR c X n T') : EqR c X n (fun d e => T d e ∨ T' d e) := fun ap G P A pins s σ H x y u v d e sb I p rx ry r1 r2 t =>
  t.elim (fun t => h ap G P A pins s σ H x y u v d e sb I p rx ry r1 r2 t) fun t => h' ap G P A pins s σ H x y u v d e sb I p rx ry r1 r2 t
theorem EqR.imp (h : EqR c X n T) (k : ∀ d e, T' d e → T d e) : EqR c X n T' := fun ap G P A pins s σ H x y u v d e sb I p rx ry r1 r2 t => h ap G P A pins s σ H x y u v d e sb I p rx ry r1 r2 (k d e t)
end
end DL
namespace DL
open PySem PySem.Spec PyProof.Rows L2
end DL
namespace DL
open PySem PySem.Spec PyProof.Rows L2
end DL
namespace DL
open PySem PySem.Spec PyProof.Rows L2
section
variable {c : Cn} {X : Cx}
theorem depthInts : ∀ ns : List Int, PyData.depthAll (ns.map PyData.int) = 0
  | [] => rfl
  | i :: ns => by
    show max (PyData.depth (.int i)) (PyData.depthAll (ns.map PyData.int)) = 0
    rw [depthInts ns]
    rfl
def rMaxL (K : PySem.W.Frag) : V → Hp → VK → Prop := fun v H Q => ∃ (a : Addr) (n : Int) (ns : List Int), v = .ref a ∧ SqL K H a ((n :: ns).map V.int) ∧ Q (.int (ns.foldl max n)) H
theorem cr_maxL (hc : X.calm = true) (hu : X.A.units + 64 < cLine) : CallR X (.builtin "max") (fun xs H Q => ∃ v, xs = [v] ∧ rMaxL X.K v H Q) := by
  intro pins s σ H xs us Q I r h
  obtain ⟨v, rfl, a, n, ns, rfl, hs, q⟩ := h
  obtain ⟨u, rfl, ru⟩ := vals1 r
  cases ru
  obtain ⟨its, rv, hl, _⟩ := I.list hs
  have rd : ReadsAll s.heap its.toArray.toList (.int n :: ns.map .int) [] := readsInts (ns := n :: ns) rv
  refine PySem.W.max_list_data (I.ok.hd hc) hl.isList rd ?_ ?_ fun i v h' tk bs _ hr kp => ?_
  · refine ⟨fun x hx y hy => ?_, fun x hx => ?_⟩
    · have e : (PyData.int n :: ns.map PyData.int) = (n :: ns).map PyData.int := rfl
      rw [e] at hx hy
      obtain ⟨i, _, rfl⟩ := List.mem_map.mp hx
      obtain ⟨j, _, rfl⟩ := List.mem_map.mp hy
      rfl
    · have e : (PyData.int n :: ns.map PyData.int) = (n :: ns).map PyData.int := rfl
      rw [e] at hx
      obtain ⟨i, _, rfl⟩ := List.mem_map.mp hx
      exact fun z => nomatch z
  · have := depthInts (n :: ns)
    have e : (PyData.int n :: ns.map PyData.int) = (n :: ns).map PyData.int := rfl
    rw [e, this]
    omega
  · rw [PySem.W.maxD_ints] at hr
    cases hr
    exact ⟨.int _, H, I.kept kp, ⟨_, rfl⟩, q⟩
/-- max(l) -/
def maxL : D → M D
  | .lst ds => match nums ds with
    | some (n :: ns) => Pure.pure (.int (ns.foldl max n))
    | _ => M.no
  | _ => M.no
theorem cd_maxL : CallD c (fun xs H Q => ∃ v, xs = [v] ∧ rMaxL c.K v H Q) (f1 maxL) := callD1 fun F ρ W P σ H G v d Q R r q => by
  cases d with
  | lst ds =>
    have q : out (match nums ds with | some (n :: ns) => Pure.pure (D.int (ns.foldl max n)) | _ => M.no) P _ _ := q
    cases h : nums ds with
    | none => rw [h] at q; exact q.elim
    | some l =>
      rw [h] at q
      cases l with
      | nil => exact q.elim
      | cons n ns =>
        cases r with
        | lst ha hl hr =>
          have e := nums_of ⟨hl, hr⟩ h
          subst e
          exact ⟨_, n, ns, rfl, SqL.of (R.post.le _ _ ha), q _ H G (Ext.refl _) R (.int _)⟩
  | _ => exact q.elim
end
end DL
namespace DL
open PySem PySem.Spec PyProof.Rows L2
end DL
namespace DL
open PySem PySem.Spec PyProof.Rows L2
end DL
namespace DL
open PySem PySem.Spec PyProof.Rows L2
section
variable {c : Cn} {X : Cx}
theorem call_repr_str : CallR X (.builtin "repr") (fun xs H Q => ∃ x : Str, xs = [.str x] ∧ (reprText x).length ≤ sizeLine ∧ Q (.str (reprText x)) H) := by
  intro pins s σ H xs us Q I r h
  obtain ⟨x, rfl, hz, q⟩ := h
  obtain ⟨u, rfl, ru⟩ := vals1 r
  obtain ⟨t, rfl⟩ := ru
  refine PySem.P.repr_of_str ?_ hz
  exact ⟨.str _, H, I.tok _, ⟨_, rfl⟩, q⟩
theorem call_repr_none : CallR X (.builtin "repr") (fun xs H Q => xs = [.non] ∧ Q (.str "None") H) := by
  intro pins s σ H xs us Q I r h
  obtain ⟨rfl, q⟩ := h
  obtain ⟨u, rfl, ru⟩ := vals1 r
  cases ru
  exact PySem.P.repr_of_none ⟨.str _, H, I.tok _, ⟨_, rfl⟩, q⟩
theorem reads_empty {pins : List (Addr × Obj)} {σ : L2.St} {H : Hp} {s : Shared} {a : Addr} (I : Inv X pins σ H s) (h : H a = some (.dK []) ∨ H a = some (.dT [])) : Reads s.heap (.ref a) (.dict []) [a] ∧ (a == sysModules) = false := by
  have go : ∀ {o : Obj} {es : Array DictEntry} {ep : Nat}, s.heap.get? a = some o → o.ExactDict → o.data = .dict es ep → es.toList = [] → Reads s.heap (.ref a) (.dict []) [a] := fun {o es ep} h1 h2 h3 h4 => by
    have r := Reads.dict (kvs := []) (as := []) (bs := []) h1 h2.1 h3 (by rw [h4]; exact .nil) (by rw [h4]; exact .nil)
    exact r
  rcases h with h | h
  · obtain ⟨_, hs, vs, kv, o, es, ep, h1, h2, h3, _, h5, _⟩ := dk_of I.hok h
    cases kv
    exact ⟨go h1 h2 h3 (List.eq_nil_of_length_eq_zero (Pairs.length h5)), hs⟩
  · obtain ⟨_, hs, xs, kt, o, es, ep, h1, h2, h3, h4, _, _⟩ := dt_of I.hok h
    cases kt
    exact ⟨go h1 h2 h3 h4, hs⟩
def emptyS : Str := (PyData.dict []).shown
theorem call_repr_empty (hg : X.A.guards = some []) (hu : X.A.units + 102 < cLine) : CallR X (.builtin "repr") (fun xs H Q => ∃ a, xs = [.ref a] ∧ (H a = some (.dK []) ∨ H a = some (.dT [])) ∧ Q (.str emptyS) H) := by
  intro pins s σ H xs us Q I r h
  obtain ⟨a, rfl, hd, q⟩ := h
  obtain ⟨u, rfl, ru⟩ := vals1 r
  obtain ⟨rd, hs⟩ := reads_empty I hd
  cases ru
  refine PySem.repr_of_reads' rd (by decide +kernel) (fun _ m => ?_) hg (by show X.A.units + (1 + 1) < cLine; omega) (fun _ _ e => e) (fun h' t tk k => ⟨.str _, H, I.kept k, ⟨t, rfl⟩, q⟩) (by rw [sizeLine_eq]; exact Nat.le_trans (show (PyData.dict []).shown.length ≤ 10 by decide +kernel) (by decide))
  rw [List.mem_singleton] at m
  rw [m] at hs
  exact absurd hs (by simp)
def reprN : D → M D
  | .str x => if (reprText x).length ≤ sizeLine then Pure.pure (.str (reprText x)) else M.no
  | .non => Pure.pure (.str "None")
  | .dic [] => Pure.pure (.str emptyS)
  | d => reprB d
def rReprN (K : PySem.W.Frag) : V → Hp → VK → Prop := fun v H Q => rReprB K v H Q ∨ (∃ x : Str, v = .str x ∧ (reprText x).length ≤ sizeLine ∧ Q (.str (reprText x)) H) ∨ (v = .non ∧ Q (.str "None") H) ∨ (∃ a, v = .ref a ∧ (H a = some (.dK []) ∨ H a = some (.dT [])) ∧ Q (.str emptyS) H)
theorem cr_reprN (hg : X.A.guards = some []) (hu : X.A.units + 102 < cLine) : CallR X (.builtin "repr") (fun xs H Q => ∃ v, xs = [v] ∧ rReprN X.K v H Q) := CallR.by (CallR.or (cr_reprB hg hu) (CallR.or call_repr_str (CallR.or call_repr_none (call_repr_empty hg hu)))) fun xs H Q ⟨v, e, h⟩ => by
  subst e
  rcases h with h | ⟨x, rfl, h⟩ | ⟨rfl, h⟩ | ⟨a, rfl, h⟩
  · exact .inl ⟨v, rfl, h⟩
  · exact .inr (.inl ⟨x, rfl, h⟩)
  · exact .inr (.inr (.inl ⟨rfl, h⟩))
  · exact .inr (.inr (.inr ⟨a, rfl, h⟩))
theorem cd_reprN : CallD c (fun xs H Q => ∃ v, xs = [v] ∧ rReprN c.K v H Q) (f1 reprN) := by
  intro F ρ W P σ H G vs ds Q R rs q
  match ds, q with
  | [d], q =>
    obtain ⟨v, rfl, rv⟩ := rs.one
    refine ⟨v, rfl, ?_⟩
    have old : ∀ d, c.rep G v d → out (reprB d) P (fun d P' => ∀ v H' G', Ext G G' → Rel c F ρ P' σ H' G' → c.rep G' v d → Q v H') (exW c F W P G σ) → rReprB c.K v H Q := fun d r z => by
      have := cd_reprB (c := c) F ρ W P σ H G [v] [d] Q R (Reps.cons r Reps.nil) z
      obtain ⟨u, e, h⟩ := this
      injection e with e _
      subst e
      exact h
    cases d with
    | str x =>
      have q : out (if (reprText x).length ≤ sizeLine then Pure.pure (D.str (reprText x)) else M.no) P _ _ := q
      by_cases z : (reprText x).length ≤ sizeLine
      · rw [if_pos z] at q
        cases rv
        exact .inr (.inl ⟨x, rfl, z, q _ H G (Ext.refl _) R (.str _)⟩)
      · rw [if_neg z] at q; exact q.elim
    | non =>
      cases rv
      exact .inr (.inr (.inl ⟨rfl, q _ H G (Ext.refl _) R (.str _)⟩))
    | dic kvs =>
      cases kvs with
      | cons a b => exact .inl (old _ rv q)
      | nil =>
        cases rv with
        | dicK ha hk hr =>
          rename_i a kvs
          have e : kvs = [] := List.map_eq_nil_iff.mp hk
          subst e
          exact .inr (.inr (.inr ⟨a, rfl, .inl (R.post.le _ _ ha), q _ H G (Ext.refl _) R (.str _)⟩))
        | dicT ha hk hr =>
          rename_i a kvs
          have e : kvs = [] := List.map_eq_nil_iff.mp hk
          subst e
          exact .inr (.inr (.inr ⟨a, rfl, .inr (R.post.le _ _ ha), q _ H G (Ext.refl _) R (.str _)⟩))
    | _ => exact .inl (old _ rv q)
  | [], q => exact q.elim
  | _ :: _ :: _, q => exact q.elim
end
end DL
namespace DL
open PySem PySem.Spec PyProof.Rows L2
end DL
namespace DL
open PySem PySem.Spec PyProof.Rows L2
end DL
namespace DL
open PySem PySem.Spec PyProof.Rows L2
end DL
namespace DL
open PySem PySem.Spec PyProof.Rows L2
end DL
namespace DL
open PySem PySem.Spec PyProof.Rows L2
end DL
namespace DL
open PySem PySem.Spec PyProof.Rows L2
section
variable {c : Cn} {X : Cx} {n m j : Nat} {T T' : D → D → Bool → Prop}
def EqB (c : Cn) (X : Cx) (n : Nat) (T : D → D → Bool → Prop) : Prop :=
  ∀ (ap : Option Addr) (G : Hp) (P : Pot) (A : Around) (pins : List (Addr × Obj)) (s : Shared) (σ : L2.St) (H : Hp) (x y : V) (u v : Value) (d e : D) (b : Bool), SubD X n A → Inv X pins σ H s → Post c ap G H P G H → RelV x u → RelV y v → c.rep G x d → c.rep G y e → T d e b →
    wpAny (model X.prog X.w) A (eqBool u v) (fun r s' => r = b ∧ ∃ H' G', Inv X pins σ H' s' ∧ Post c ap G H P G' H') X.xe s
theorem EqB.mono (h : EqB c X n T) (l : n ≤ m) : EqB c X m T := fun ap G P A pins s σ H x y u v d e b sb => h ap G P A pins s σ H x y u v d e b (sb.mono l)
theorem EqB.or (h : EqB c X n T) (h' : EqB c X n T') : EqB c X n (fun d e b => T d e b ∨ T' d e b) := fun ap G P A pins s σ H x y u v d e b sb I p rx ry r1 r2 t =>
  t.elim (fun t => h ap G P A pins s σ H x y u v d e b sb I p rx ry r1 r2 t) fun t => h' ap G P A pins s σ H x y u v d e b sb I p rx ry r1 r2 t
theorem EqB.imp (h : EqB c X n T) (k : ∀ d e b, T' d e b → T d e b) : EqB c X n T' := fun ap G P A pins s σ H x y u v d e b sb I p rx ry r1 r2 t => h ap G P A pins s σ H x y u v d e b sb I p rx ry r1 r2 (k d e b t)
end
end DL
namespace DL
open PySem PySem.Spec PyProof.Rows L2
end DL
namespace DL
open PySem PySem.Spec PyProof.Rows L2
end DL
namespace DL
open PySem PySem.Spec PyProof.Rows L2
end DL
namespace L2
open PySem PySem.Spec PyProof.Rows
end L2
namespace DL
open PySem PySem.Spec PyProof.Rows L2
end DL
namespace DL
open PySem PySem.Spec PyProof.Rows L2 L2.DX
end DL
namespace DL
open PySem PySem.Spec PyProof.Rows L2 L2.DX
end DL
namespace DL
open PySem PySem.Spec PyProof.Rows L2 L2.DX
end DL
namespace DL
open PySem PySem.Spec PyProof.Rows L2
end DL
namespace DL
open PySem PySem.Spec PyProof.Rows L2
end DL
namespace SY
open PySem PySem.Spec PyProof.Rows L2
section
variable {P : Program} {w : World} {A : Around} {E : Value → Shared → Prop} {s : Shared}
/-- at b lies a tuple with these keys -/
abbrev Tk (P : Program) (w : World) (h : Heap) (k : List Key) (b : Addr) : Prop := IsTupleKey (mixKind P w) h k b
abbrev hk (P : Program) (w : World) (k : List Key) : Int := tupleKeyHash (mixKind P w) k
end
end SY
namespace SY
open PySem PySem.Spec PyProof.Rows L2
abbrev row (P : Program) (w : World) (p : Addr × List Key) : Int × Value := (hk P w p.2, Value.ref p.1)
/-- the set at a has the elements L, in the order of its table -/
structure Sy (P : Program) (w : World) (h : Heap) (a : Addr) (L : List (Addr × List Key)) (es : Array (Int × Value)) (ep : Nat) (t : SetTable) : Prop where
  lies : ∃ o, h.get? a = some o ∧ o.ExactSet ∧ o.data = .set es ep t
  rs : es.toList = L.map (row P w)
  tb : TabOk t (L.map fun p => hk P w p.2)
  un : (L.map (·.2)).Nodup
  el : ∀ p ∈ L, Tk P w h p.2 p.1
  ld : w.params.followText "set-order" = true ∨ t.led = true
  rm : 5 * L.length < 3 * t.mask
  l64 : L.length < 64
section
variable {P : Program} {w : World} {A : Around} {E : Value → Shared → Prop} {s : Shared} {a : Addr} {L : List (Addr × List Key)} {es : Array (Int × Value)} {ep : Nat} {t : SetTable} {h : Heap}
theorem Sy.at (R : Sy P w h a L es ep t) {i : Nat} {p : Addr × List Key} (e : L[i]? = some p) : es[i]? = some (row P w p) := by
  rw [← Array.getElem?_toList, R.rs, List.getElem?_map, e]; rfl
end
end SY
namespace DL
open PySem PySem.Spec PyProof.Rows L2
end DL
namespace DL
open PySem PySem.Spec PyProof.Rows L2
end DL
namespace DL
open PySem PySem.Spec PyProof.Rows L2
section
variable {c : Cn} {X : Cx} {F : Fr} {W : WX} {ρ : List Sl} {k : Nat}
/-- the tables have changed -/
theorem Rel.extN {P : Pot} {σ : L2.St} {H H1 G : Hp} (R : Rel c F ρ P σ H G) (e : LamX.ExtN H H1) (t : LamX.Tabs c.T H1) : Rel c F ρ P σ H1 G := by
  refine ⟨⟨R.post.ext, fun a o h => e a o (R.post.le a o h) (R.post.nt a o h), fun b o h n nt => e b o (R.post.fr b o h n nt) nt, R.post.new, R.post.pot.ext (Ext.refl _) (fun a ha => ?_) (fun a ha => ?_), t, R.post.nt⟩, R.len, fun i s x a b => ?_, R.ap⟩
  · obtain ⟨vs, h⟩ := R.lt_ap ha
    rw [h]
    exact e a _ h nt_lst
  · have z := R.post.pot
    rw [ha] at z
    cases P with
    | none => exact z.elim
    | some ds => obtain ⟨_, _, _, z⟩ := z; exact z
  · have z := R.sl i s x a b
    cases s with
    | un => exact True.intro
    | v d => exact z
    | p => exact z
    | o k =>
      obtain ⟨ad, e1, ⟨u, hu, hk⟩, g, h, n⟩ := z
      have nt : noTbl u := by
        intro ps e2; subst e2
        cases k <;> exact hk
      exact ⟨ad, e1, ⟨u, e ad u hu nt, hk⟩, g, h, n⟩
end
end DL
namespace DL
open PySem PySem.Spec PyProof.Rows L2
theorem post_tabs {mg : Str → Option Value} {K : PySem.W.Frag} {T : List (Addr × Str)} {cs : List (Addr × Addr)} {H : Hp} {a : Addr} {ns : List Int} (hT : ∀ t ∈ T, ∃ p ∈ cs, p.2 = t.1) (hH : ∀ p ∈ cs, H p.2 = some (.tbl #[])) (h : SqL K H a (ns.map V.int)) :
    ∃ G : Hp, Post ⟨mg, K, T⟩ none G H none G H ∧ SqL K G a (ns.map V.int) := by
  have tab : LamX.Tabs T H := fun t ht => by
    obtain ⟨p, hp, e⟩ := hT t ht
    exact LamX.TabS.nil (by rw [← e]; exact hH p hp)
  have mk : ∀ G : Hp, Ext G H → (∀ b o, G b = some o → noTbl o) → Post ⟨mg, K, T⟩ none G H none G H := fun G e n => ⟨Ext.refl _, e, fun _ _ h _ _ => h, fun _ h => .inl h, True.intro, tab, n⟩
  have one : ∀ o : HO, H a = some o → noTbl o → Post ⟨mg, K, T⟩ none (fun b => if b = a then some o else none) H none (fun b => if b = a then some o else none) H := fun o e n => mk _ (fun b u z => by
    by_cases y : b = a
    · subst y
      rw [if_pos rfl] at z
      cases z
      exact e
    · rw [if_neg y] at z; cases z) fun b u z => by
    by_cases y : b = a
    · subst y
      rw [if_pos rfl] at z
      cases z
      exact n
    · rw [if_neg y] at z; cases z
  rcases h with (h | ⟨o, h⟩) | h
  · exact ⟨_, one _ h nt_lst, .inl (.inl (if_pos rfl))⟩
  · exact ⟨_, one _ h (fun _ z => nomatch z), .inl (.inr ⟨o, if_pos rfl⟩)⟩
  · exact ⟨fun _ => none, mk _ (fun _ _ z => nomatch z) fun _ _ z => (nomatch z), .inr h⟩
end DL
namespace DL
open PySem PySem.Spec PyProof.Rows L2
section
variable {P : Program} {w : World} {K : PySem.W.Frag} {mg : Str → Option Value} {base : Heap} {c : Cn}
/-- a def by its body, its code object told -/
theorem fnG_ofC {x qual : Str} {st : Stmt} {f : Addr} {fd : FuncData} {N ps : List Str} {k : Nat} {mf : List Ar → M D} (Fn : Fun K x qual st f fd) (hK : c.K = K) (hm : c.mg = mg) (S : FnScope N ps (defScope st)) (len : ∀ as P ok ex, out (mf as) P ok ex → as.length = ps.length)
    (hbody : ∀ (cd : Value) (A : Around) (fr : List Env) (s : Shared) (H0 G0 : Hp) (ap : Option Addr) (E : XK) (as : List Ar) (P0 : Pot) (ok : D → Pot → Prop) (ex : Ex → Pot → Prop), cd = fd.code → out (mf as) P0 ok ex → BodyX c (bX P w K mg base N qual st f cd A fr s H0 E) k (fun cl dd _ H => E cl dd H) →
      ∃ (α : Type) (En : α → List Sl) (mb : M (Fl α)), PSs (bX P w K mg base N qual st f cd A fr s H0 E) (defBody st) (rdS c ⟨G0, H0, ap⟩ (fun cl dd _ H => E cl dd H) (slots as N.length) En mb) ∧ mf as = mb >>= doneF) :
    FnG P w K mg base (k + 1) f fd ps (spD c mf) := by
  refine fn_coreC Fn hK hm S (fun vs H Q E ⟨ap, G, P0, as, p, r, q⟩ => (ArsOk.length r).trans (len _ _ _ _ q)) fun cd A fr s H vs Q E hcc bx ⟨ap, G, P0, as, p0, ra, q0⟩ => ?_
  obtain ⟨α, En, mb, hps, em⟩ := hbody cd A fr s H G ap E as P0 _ _ hcc q0 bx
  rw [em] at q0
  refine ⟨_, hps, P0, G, rel_start p0 ra, out_mono (out_bind.mp q0) (fun fl P' z => ?_) fun e P' z cl dd H' G' ρ' σ' _ R' k' => z cl dd H' G' R'.post k'⟩
  cases fl with
  | nx a => exact fun σ' H' G' e R' => z .non H' G' R'.post .non
  | rt d => exact fun v H' G' ρ' σ' e R' k' => z v H' G' R'.post k'
  | bk a => exact z.elim
  | ct a => exact z.elim
end
/-- the code object of a def, by the table's fact -/
theorem code_at {K : PySem.W.Frag} {x : Str} {f cc P : Addr} {oc : Value} {od : Option Addr} {fd : FuncData} {sl : Array (Option Value)} (a : PySem.W.nsIn K mainGlobals x = some (some (.ref f))) (l : K.lookup f = some ⟨oc, od, .func fd, sl⟩) (t : PySem.W.tabIn K x = some (cc, P)) : fd.code = .ref cc := by
  unfold PySem.W.tabIn at t
  rw [a] at t
  dsimp only at t
  rw [l] at t
  dsimp only at t
  split at t
  · rename_i c hc
    split at t
    · split at t
      · cases t; exact hc
      · cases t
    · cases t
  · cases t
end DL
namespace DL
open PySem PySem.Spec PyProof.Rows L2
end DL
namespace DL
open PySem PySem.Spec PyProof.Rows L2
/-- the def that makes the lambda: its code object cc, the table P -/
structure LamAt (c : Cn) (base : Heap) (cc P : Addr) (q : Str) : Prop where
  tb : LamX.TabB base c.mg cc P
  on : (P, q) ∈ c.T
  one : ∀ p ∈ c.T, p.1 = P → p.2 = q
end DL
namespace DL
open PySem PySem.Spec PyProof.Rows L2
/-- the code object and the table of a def that makes lambdas -/
theorem tab_eq {K : PySem.W.Frag} {x : Str} {f c P : Addr} {oc oc2 : Value} {od od2 : Option Addr} {fd : FuncData} {sl sl2 : Array (Option Value)} {vs : Array Value} (a : PySem.W.nsIn K mainGlobals x = some (some (.ref f))) (l : K.lookup f = some ⟨oc, od, .func fd, sl⟩) (hc : fd.code = .ref c) (l2 : K.lookup c = some ⟨oc2, od2, .fields vs, sl2⟩) (hP : (vs[11]? : Option Value) = some (.ref P)) : PySem.W.tabIn K x = some (c, P) := by
  unfold PySem.W.tabIn
  simp only [a, l, hc, l2, hP]
end DL
namespace PySem
namespace KepX
open PySem.W PySem.Calls PyProof.Rows PySem.HandSPX Builtin Builtin.ObjectAttr
def iA (f : Str) (p1 p2 : Pos) : Arguments := { posonlyargs := [], args := [{ arg := "self", annotation := none, pos := p1 }, { arg := f, annotation := none, pos := p2 }], vararg := none, kwonlyargs := [], kw_defaults := [], kwarg := none, defaults := [] }
def iB (f : Str) (q1 q2 q3 q4 : Pos) : List Stmt := [.Assign [.Attribute (.Name "self" q1) f q2] (.Name f q3) q4]
def iS (f : Str) : Scope := { kind := .function, names := [(PySem.Str.ofString "self", .local), (f, .local)], isGenerator := false, isCoroutine := false, more := [] }
/-- what is asked of the name that is kept -/
structure KName (f : Str) : Prop where
  nd : (f == ("__debug__" : Str)) = false
  bd : ∀ (qn : Str) (doc pm : Value) (an : Option Addr) (cdv ct : Value) (p1 p2 q1 q2 q3 q4 : Pos) (a b : Value), bindArgs (fnOf "__init__" qn (iA f p1 p2) (iB f q1 q2 q3 q4) (iS f) .none .none doc pm an cdv ct) { pos := [a, b] } = pure [(("self" : Str), a), (f, b)]
  al : ∀ a b : Value, ([(("self" : Str), a), (f, b)].all fun y => List.lookup y.1 (iS f).names == some NameKind.local || List.lookup y.1 (iS f).names == some NameKind.cell) = true
  bf : ∀ (qn : Str) (L fI : Addr) (cdv : Value) (a b : Value), bindL (envOfC qn (iS f) L fI cdv).kindOf [(("self" : Str), a), (f, b)] (fun _ => none) f = some b
  bs : ∀ (qn : Str) (L fI : Addr) (cdv : Value) (a b : Value), bindL (envOfC qn (iS f) L fI cdv).kindOf [(("self" : Str), a), (f, b)] (fun _ => none) "self" = some a
  kf : ∀ (qn : Str) (L fI : Addr) (cdv : Value), (envOfC qn (iS f) L fI cdv).kindOf f = some NameKind.local
  ks : ∀ (qn : Str) (L fI : Addr) (cdv : Value), (envOfC qn (iS f) L fI cdv).kindOf "self" = some NameKind.local
/-- what the written part says of the class x, at C, that keeps f, and of its __init__, at fI -/
structure KTxt (K : Frag) (mg : Str → Option Value) (x f : Str) (B newId initId : String) (bmB : List Value) (C fI : Addr) : Prop where
  gC : mg x = some (.ref C)
  base : ExcBaseFacts B newId initId bmB
  st : StoreFacts B bmB "object.__setattr__" "object"
  ex : excInitIn K C bmB newId = true
  ov : excOver K C bmB = true
  tkr : takerIn K C f = some none
  cd : ∃ cd, clsIn K C = some cd ∧ cd.hasDict = true
  sa : findIn K (.ref C) "__setattr__" = some (some (.builtin "object.__setattr__"))
  ga : findIn K (.ref C) "__getattribute__" = some (some (.builtin "BaseException.__getattribute__"))
  gg : findIn K (.ref C) "__getattr__" = some none
  noN : findIn K (.ref C) f = some none
  iC : findIn K (.ref C) "__init__" = some (some (.ref fI))
  tC : typeIn K (.ref fI) = some (.type "function")
  kC : keepIn K (.ref C) = true
  exC : subIn K (.ref C) (.type "BaseException") = some true
  tyC : typeIn K (.ref C) = some (.type "type")
  hdC : hasDictIn K C = true
  kn : KName f
  fn : ∃ (oc : Value) (od : Option Addr) (qn : Str) (doc pm : Value) (an : Option Addr) (cdv ct : Value) (osl : Array (Option Value)) (p1 p2 q1 q2 q3 q4 : Pos),
    K.lookup fI = some ⟨oc, od, .func (fnOf "__init__" qn (iA f p1 p2) (iB f q1 q2 q3 q4) (iS f) .none .none doc pm an cdv ct), osl⟩ ∧ codeIn K cdv qn = true
end KepX
end PySem
namespace DL
open PySem PySem.Spec PyProof.Rows L2
end DL
namespace DL
open PySem PySem.Spec PyProof.Rows L2
def endsOff (i : Nat) (D : Ends) : Ends := { nx := fun σ H => D.nx (σ.set i none) H, rt := D.rt, bk := fun σ H => D.bk (σ.set i none) H, ct := fun σ H => D.ct (σ.set i none) H }
abbrev Clau := Value × Option Nat × (Addr → Value → Option Addr → TS)
/-- the suite's wish: with a name its slot holds the exception -/
def wSuite (o : Option Nat) (ts : Addr → Value → Option Addr → TS) (a : Addr) (cls : Value) (d : Option Addr) (D : Ends) (σ : L2.St) (H : Hp) : Prop := match o with
  | none => ts a cls d D σ H
  | some i => (σ.set i (some (.ref a)))[i]? = some (some (.ref a)) → ts a cls d (endsOff i D) (σ.set i (some (.ref a))) H
def wMix (K : PySem.W.Frag) (out : WX) (D : Ends) : List Clau → WX
  | [] => out
  | (c, o, ts) :: more => fun cls d σ H => ∃ b, PySem.W.exmOne K cls c = some b ∧ (b = true → ∀ a, H a = none → wSuite o ts a cls d D σ H) ∧ (b = false → wMix K out D more cls d σ H)
inductive HdsM (X : Cx) : List ExceptHandler → List Clau → Prop
  | nil : HdsM X [] []
  | cons {x : Str} {c : Value} {ts : Addr → Value → Option Addr → TS} {first : Stmt} {suite : List Stmt} {p p' : Pos} {more : List ExceptHandler} {l : List Clau} (hc : Names X x c)
      (su : ∀ (a : Addr) (oe : Obj) (cls : Value) (d : Option Addr) (pn : List (Addr × Obj)), Zc cls d oe → (∃ vs, oe.data = .fields vs) → PSs (X.suite a ((a, oe) :: pn)) (first :: suite) (ts a cls d)) (t : HdsM X more l) :
      HdsM X (.ExceptHandler (some (.Name x p)) none (first :: suite) p' :: more) ((c, none, ts) :: l)
  | named {x n : Str} {i : Nat} {c : Value} {ts : Addr → Value → Option Addr → TS} {first : Stmt} {suite : List Stmt} {p p' : Pos} {more : List ExceptHandler} {l : List Clau} (hc : Names X x c) (hi : X.N[i]? = some n) (hln : X.env.kindOf n = some .local)
      (su : ∀ (a : Addr) (oe : Obj) (cls : Value) (d : Option Addr) (pn : List (Addr × Obj)), Zc cls d oe → (∃ vs, oe.data = .fields vs) → PSs (X.suite a ((a, oe) :: pn)) (first :: suite) (ts a cls d)) (t : HdsM X more l) :
      HdsM X (.ExceptHandler (some (.Name x p)) (some n) (first :: suite) p' :: more) ((c, some i, ts) :: l)
section
variable {X : Cx} {body : List Stmt} {h₀ : ExceptHandler} {hds : List ExceptHandler} {l : List Clau} {pos : Pos} {tb : WX → TS} {Wo : WX}
theorem ps_try_mix (stk : X.stack = X.env :: X.outer) (own : X.env.frame = some X.env.locals) (nodup : X.N.Nodup) (tk : Takes X Wo)
    (bd : ∀ (W : WX) (pn : List (Addr × Obj)) (xe : Value → Shared → Prop), Takes (X.tr pn xe) W → PassesOwn (model X.prog X.w) X.A X.env xe → PSs (X.tr pn xe) body (tb W))
    (hh : HdsM X (h₀ :: hds) l) : PS X (.Try body (h₀ :: hds) [] [] pos) (fun D σ H => tb (wMix X.K Wo D l) D σ H) := by
  refine ⟨fun pins s σ H D inv pre => ?_⟩
  have okk := inv.ok
  have frm : X.A.frames = some (X.env :: X.outer) := okk.frames.trans (congrArg some stk)
  refine wpAny_Try_except (wpAny_mono ((bd (wMix X.K Wo D l) (X.pn ++ pins) (fun e s₁ => wpAny (model X.prog X.w) X.A (noteFrame e X.env) (fun _ s₂ => wpAny (model X.prog X.w) X.A (setFlight e none) (fun _ s₃ =>
    wpAny (model X.prog X.w) X.A (handleBy e X.env (h₀ :: hds)) (SP X pins D) X.xe s₃) X.xe s₂) X.xe s₁) (fun u s' caught => ?_) PassesOwn.looking).run [] s σ H D (inv.toTry _) pre) (fun f s1 fine => ?_) (fun _ _ z => z))
  · obtain ⟨a, B, base, pins2, σ2, H2, cls, d, rfl, inv2, nob, grow, sky, gone, oss, gens, w⟩ := caught
    have J : Inv X pins σ2 H2 base := inv2.ofTry okk
    have sky2 : Sky B (X.env :: X.outer) a (Zc cls d) X.env.locals s'.heap := stk ▸ sky
    show wpAny (model X.prog X.w) X.A (noteFrame (.ref a) X.env) _ _ _
    refine Sky.land Zc.steady frm own sky2 fun hp3 held up3 => ?_
    have J3 : Inv X pins σ2 H2 { s' with heap := hp3 } := J.landed nob held.1 (grow.trans up3) oss gens
    obtain ⟨oe, vs, at3, zc3, flds⟩ := held.there
    have far : a ∉ frs (X.env :: X.outer) := fun inside => by
      obtain ⟨_, o, isO, notF⟩ := held.2.2.1.mem inside
      rw [at3] at isO
      cases isO
      exact notF _ flds
    have farL : a ≠ X.env.locals := fun z => far (List.mem_filterMap.mpr ⟨X.env, List.mem_cons_self, by rw [own, z]⟩)
    have farF : a ∉ X.fs := fun inside => by
      obtain ⟨e, isE, q⟩ := List.mem_filterMap.mp inside
      exact far (List.mem_filterMap.mpr ⟨e, List.mem_cons_of_mem _ isE, q⟩)
    have S3 := J3.suite at3 flds gone farL farF
    have look : PySem.W.Looks (model X.prog X.w) hp3 (typeOf (.ref a)) cls := fun A Q E s k q => wpAny_typeOf_ref (k _ _ at3) (by rw [zc3.1]; exact q)
    have asks : ∀ {x : Str} {c : Value} {np : Pos} {Q E : Value → Shared → Prop}, Names X x c → Q c { s' with heap := hp3 } → wpAny (model X.prog X.w) (X.A.mark (some (.ref a))) (eval (.Name x np) X.env) Q E { s' with heap := hp3 } := fun {x c np Q E} hc q => by
      obtain ⟨gl, ndb, isg | ⟨isg, isb, nn⟩⟩ := hc
      · exact ld_glob (X := X.suite a ((a, oe) :: (X.pn ++ pins))) S3 gl isg q ndb
      · exact ld_blt (X := X.suite a ((a, oe) :: (X.pn ++ pins))) S3 gl isg isb q nn ndb
    have go : ∀ {hs' : List ExceptHandler} {l' : List Clau}, HdsM X hs' l' → wMix X.K Wo D l' cls d σ2 H2 → wpAny (model X.prog X.w) X.A (handleBy (.ref a) X.env hs') (SP X pins D) X.xe { s' with heap := hp3 } := by
      intro hs' l' hm
      induction hm with
      | nil =>
        intro w
        refine wpAny_handleBy_nil ?_
        obtain ⟨_, _, _, o4, _, T, _, _, e4, _, d4, r4, _⟩ := id held
        unfold PySem.passOn
        refine wpAny_bind (wpAny_field e4 d4 r4 ?_)
        rw [if_neg (show ¬ ((Value.ref T == Value.none) = true) by simp)]
        have last : wpAny (model X.prog X.w) X.A (setFlight (.ref a) X.env.frame) (fun _ s4 => wpAny (model X.prog X.w) X.A (throw (.ref a) : Sem Flow) (SP X pins D) X.xe s4) X.xe { s' with heap := hp3 } := by
          rw [own]
          exact HandSPX.setFlight_upZ held fun _ fly up4 => wpAny_throw (tk _ _ ⟨a, B, base, pins, σ2, H2, cls, d, rfl, J, nob, (grow.trans up3).trans up4, .inr (.inr (by rw [stk]; exact fly)), gone, oss, gens, w⟩)
        first
          | exact wpAny_bind (wpAny_pure (wpAny_bind last))
          | exact wpAny_bind last
      | @cons x c ts first suite np np' more l2 hc su t ih =>
        intro ⟨b, isB, yes, no⟩
        refine wpAny_handleBy_cons (codeAny_handlers_test ?_) (fun z => nomatch z)
        refine asks hc ((PySem.W.exm_one (M := model X.prog X.w) J3.kIn look isB).here ?_)
        cases b with
        | false => exact ih (no rfl)
        | true =>
          refine codeAny_handlers_suite (HandSPX.lands_againZ held fun hp4 held4 up4 => ?_)
          have J4 : Inv X pins σ2 H2 { s' with heap := hp4 } := J.landed nob held4.1 ((grow.trans up3).trans up4) oss gens
          obtain ⟨oe4, vs4, at4, zc4, flds4⟩ := held4.there
          refine wpAny_mono ((su a oe4 cls d (X.pn ++ pins) zc4 ⟨_, flds4⟩).run [] _ _ H2 _ (J4.suite at4 flds4 gone farL farF) (yes rfl a gone)) (fun f s6 fin => ?_) (fun _ _ z => z.elim)
          cases f with
          | ret u => obtain ⟨v6, σ6, H6, S6, r6, q6⟩ := fin; exact ⟨v6, σ6, H6, S6.unsuite okk, r6, q6⟩
          | next => obtain ⟨σ6, H6, S6, q6⟩ := fin; exact ⟨σ6, H6, S6.unsuite okk, q6⟩
          | brk => obtain ⟨σ6, H6, S6, q6⟩ := fin; exact ⟨σ6, H6, S6.unsuite okk, q6⟩
          | cont => obtain ⟨σ6, H6, S6, q6⟩ := fin; exact ⟨σ6, H6, S6.unsuite okk, q6⟩
      | @named x n i c ts first suite np np' more l2 hc hi hln su t ih =>
        intro ⟨b, isB, yes, no⟩
        refine wpAny_handleBy_cons (codeAny_handlers_test ?_) (fun z => nomatch z)
        refine asks hc ((PySem.W.exm_one (M := model X.prog X.w) J3.kIn look isB).here ?_)
        cases b with
        | false => exact ih (no rfl)
        | true =>
          refine codeAny_handlers_suite_as (HandSPX.lands_againZ held fun hp4 held4 up4 => ?_)
          have J4 : Inv X pins σ2 H2 { s' with heap := hp4 } := J.landed nob held4.1 ((grow.trans up3).trans up4) oss gens
          obtain ⟨oe4, vs4, at4, zc4, flds4⟩ := held4.there
          have S4 := J4.suite at4 flds4 gone farL farF
          have put : (σ2.set i (some (.ref a)))[i]? = some (some (.ref a)) := List.getElem?_set_self (by rw [J.len]; exact (List.getElem?_eq_some_iff.mp hi).1)
          refine store_ok (X := X.suite a ((a, oe4) :: (X.pn ++ pins))) (v := .ref a) S4 nodup hi (.inl hln) rfl (fun s5 S5 => ?_) (.inr hln)
          refine wpAny_mono ((su a oe4 cls d (X.pn ++ pins) zc4 ⟨_, flds4⟩).run [] s5 _ H2 (endsOff i D) S5 (yes rfl a gone put)) (fun f s6 fin => ?_) (fun _ _ z => z.elim)
          cases f with
          | ret u => obtain ⟨v6, σ6, H6, S6, r6, q6⟩ := fin; exact gone_ok (S6.unsuite okk) nodup hi hln fun s7 J7 => ⟨v6, _, H6, J7, r6, q6⟩
          | next => obtain ⟨σ6, H6, S6, q6⟩ := fin; exact gone_ok (S6.unsuite okk) nodup hi hln fun s7 J7 => ⟨_, H6, J7, q6⟩
          | brk => obtain ⟨σ6, H6, S6, q6⟩ := fin; exact gone_ok (S6.unsuite okk) nodup hi hln fun s7 J7 => ⟨_, H6, J7, q6⟩
          | cont => obtain ⟨σ6, H6, S6, q6⟩ := fin; exact gone_ok (S6.unsuite okk) nodup hi hln fun s7 J7 => ⟨_, H6, J7, q6⟩
    exact go hh w
  · cases f with
    | ret u => obtain ⟨v, σ1, H1, J1, r1, q1⟩ := fine; exact ⟨v, σ1, H1, J1.ofTry okk, r1, q1⟩
    | next => obtain ⟨σ1, H1, J1, q1⟩ := fine; exact wpAny_execs_nil ⟨σ1, H1, J1.ofTry okk, q1⟩
    | brk => obtain ⟨σ1, H1, J1, q1⟩ := fine; exact ⟨σ1, H1, J1.ofTry okk, q1⟩
    | cont => obtain ⟨σ1, H1, J1, q1⟩ := fine; exact ⟨σ1, H1, J1.ofTry okk, q1⟩
end
end DL
namespace DL
open PySem PySem.Spec PyProof.Rows L2
section
variable {c : Cn} {X : Cx} {F : Fr} {W : WX} {ρ : List Sl} {α β : Type}
def repF (m f : Str) : Ex → M (Fl β) := fun e => match e.kept with
  | some (g, d) => if g = f then reprN d >>= fun x => addD (.str m) x >>= fun r => Pure.pure (.rt r) else M.no
  | none => M.no
theorem ktxt_xf {K : PySem.W.Frag} {mg : Str → Option Value} {x f : Str} {B newId initId : String} {bmB : List Value} {C fI : Addr} (T : PySem.KepX.KTxt K mg x f B newId initId bmB C fI) : XfC K C := ⟨T.ga, T.gg, T.exC, T.hdC⟩
/-- what the named suite is given -/
def tRepF (c : Cn) (F : Fr) (ρ : List Sl) (i : Nat) (m f : Str) (C : Addr) : Addr → Value → Option Addr → TS := fun a cl dd B σ H =>
  ∃ (ad : Addr) (v : V) (d : D) (P : Pot) (G : Hp), cl = .ref C ∧ dd = some ad ∧ σ[i]? = some (some (.ref a)) ∧ H ad = some (.xd [(f, v)]) ∧ c.rep G v d ∧ Rel c F ρ P σ H G ∧
    out (reprN d >>= fun x => addD (.str m) x) P (fun r P' => ∀ u H' G' ρ' σ', Ext G G' → Rel c F ρ' P' σ' H' G' → c.rep G' u r → B.rt u H') (fun _ _ => False)
/-- the clauses -/
inductive HdsE (c : Cn) (X : Cx) (F : Fr) (ρ : List Sl) (E : β → List Sl) : List ExceptHandler → List Clau → List (Hd β) → Prop
  | nil : HdsE c X F ρ E [] [] []
  | cons {x : Str} {cv : Value} {b₀ : Stmt} {suite : List Stmt} {np pos' : Pos} {h : Hd β} {hds : List ExceptHandler} {l : List Clau} {r : List (Hd β)} (hc : Names X x cv) (ok : HdOk c h.1 cv)
      (hsu : ∀ (a : Addr) (oe : Obj) (pn : List (Addr × Obj)) (e : Ex), h.1 e.c = some true → PSs (X.suite a ((a, oe) :: pn)) (b₀ :: suite) (rdS c F W0 ρ E (h.2 e))) (t : HdsE c X F ρ E hds l r) :
      HdsE c X F ρ E (.ExceptHandler (some (.Name x np)) none (b₀ :: suite) pos' :: hds) ((cv, none, tSuite c F ρ E h) :: l) (h :: r)
  | rep {x n m f : Str} {i : Nat} {C : Addr} {is : Str → Option Bool} {st : Stmt} {np pos' : Pos} {hds : List ExceptHandler} {l : List Clau} {r : List (Hd β)} (hc : Names X x (.ref C)) (ok : HdOk c is (.ref C)) (gC : c.mg x = some (.ref C)) (only : ∀ y, is y = some true → y = x) (hi : X.N[i]? = some n) (hil : i < ρ.length) (hln : X.env.kindOf n = some .local)
      (hsu : ∀ (a : Addr) (oe : Obj) (cl : Value) (dd : Option Addr) (pn : List (Addr × Obj)), Zc cl dd oe → (∃ vs, oe.data = .fields vs) → PSs (X.suite a ((a, oe) :: pn)) [st] (tRepF c F (ρ.set i .un) i m f C a cl dd)) (t : HdsE c X F ρ E hds l r) :
      HdsE c X F ρ E (.ExceptHandler (some (.Name x np)) (some n) [st] pos' :: hds) ((.ref C, some i, tRepF c F (ρ.set i .un) i m f C) :: l) ((is, repF m f) :: r)
theorem HdsE.hds {E : β → List Sl} {hds : List ExceptHandler} {l : List Clau} {r : List (Hd β)} (h : HdsE c X F ρ E hds l r) : HdsM X hds l := by
  induction h with
  | nil => exact .nil
  | cons hc ok hsu t ih =>
    refine .cons hc (fun a oe cls d pn hz hf => ⟨fun pins s σ H D I ⟨e, G, he, _, q⟩ => ?_⟩) ih
    exact (hsu a oe pn e he).run pins s σ H D I q
  | rep hc ok gC only hi hil hln hsu t ih => exact .named hc hi hln hsu ih
theorem HdsE.want {E : β → List Sl} {hds : List ExceptHandler} {l : List Clau} {r : List (Hd β)} (h : HdsE c X F ρ E hds l r) (hK : X.K = c.K) {D : Ends} {e : Ex} {cl : Value} {dd : Option Addr} {σ : L2.St} {H G : Hp} {P : Pot} (R : Rel c F ρ P σ H G) (x : ExOk c H G e cl dd)
    (q : out (pick r e) P (ends c F E D G) (exS c F W P G σ)) : wMix X.K W D l cl dd σ H := by
  induction h with
  | nil => exact q cl dd H G ρ σ (Ext.refl _) R x
  | @cons y cv b₀ suite np pos' h hds l r hc ok hsu t ih =>
    unfold pick at q
    cases hi : h.1 e.c with
    | none => simp only [hi] at q; exact q.elim
    | some b =>
      have hb : PySem.W.exmOne X.K cl cv = some b := by rw [hK]; exact ok.ok _ _ hi _ x.1
      cases b with
      | true =>
        simp only [hi] at q
        refine ⟨true, hb, fun _ a na => ?_, fun z => nomatch z⟩
        refine ⟨e, G, hi, x, P, G, R, ?_⟩
        exact out_mono (out_noEx q) (fun f p z => z) fun _ _ z => z.elim
      | false =>
        simp only [hi] at q
        exact ⟨false, hb, fun z => (nomatch z), fun _ => ih q⟩
  | @rep y n m f i C is st np pos' hds l r hc ok gC only hi hil hln hsu t ih =>
    unfold pick at q
    cases hi : is e.c with
    | none => simp only [hi] at q; exact q.elim
    | some b =>
      have hb : PySem.W.exmOne X.K cl (.ref C) = some b := by rw [hK]; exact ok.ok _ _ hi _ x.1
      cases b with
      | false =>
        simp only [hi] at q
        exact ⟨false, hb, fun z => (nomatch z), fun _ => ih q⟩
      | true =>
        simp only [hi] at q
        refine ⟨true, hb, fun _ a na => ?_, fun z => nomatch z⟩
        have ey := only _ hi
        obtain ⟨x1, x2⟩ := x
        rw [ey, gC] at x1
        have ecl : cl = .ref C := (Option.some.inj x1).symm
        have q := out_noEx q
        unfold repF at q
        obtain ⟨ec, kept⟩ := e
        cases kept with
        | none => exact q.elim
        | some gd =>
          obtain ⟨g, d⟩ := gd
          obtain ⟨ad, v, e1, e2, rv⟩ := x2
          dsimp only at q
          by_cases z : g = f
          · subst z
            rw [if_pos rfl] at q
            refine fun put => ⟨ad, v, d, P, G, ecl, e1, put, e2, rv, R.un, ?_⟩
            exact out_bind.mpr (out_mono (out_bind.mp q) (fun x P1 q1 => out_mono (out_bind.mp q1) (fun r P2 q2 u H' G' ρ' σ' e' R' r' => (show ∀ u H' G' ρ' σ', Ext G G' → Rel c F ρ' P2 σ' H' G' → c.rep G' u r → D.rt u H' from q2) u H' G' ρ' σ' e' R' r') fun _ _ z => z) fun _ _ z => z)
          · rw [if_neg z] at q
            exact q.elim
end
end DL
namespace DL
open PySem PySem.Spec PyProof.Rows L2
end DL
namespace DL
open PySem PySem.Spec PyProof.Rows L2
end DL
namespace DL
open PySem PySem.Spec PyProof.Rows L2
end DL
namespace DL
open PySem PySem.Spec PyProof.Rows L2
/-- repr of what holds nothing -/
def reprS : D → M D
  | .int z => if z.natAbs.log2 < 1920 then Pure.pure (.str (toString z)) else M.no
  | .bl b => Pure.pure (.str (if b then "True" else "False"))
  | .str x => if (reprText x).length ≤ sizeLine then Pure.pure (.str (reprText x)) else M.no
  | .non => Pure.pure (.str "None")
  | _ => M.no
def rReprS : V → Hp → VK → Prop := fun v H Q => ((∃ i, v = .int i ∧ i.natAbs.log2 < 1920 ∧ Q (.str (toString i)) H) ∨ ∃ b, v = .bl b ∧ Q (.str (if b then "True" else "False")) H) ∨ (∃ x : Str, v = .str x ∧ (reprText x).length ≤ sizeLine ∧ Q (.str (reprText x)) H) ∨ (v = .non ∧ Q (.str "None") H)
section
variable {c : Cn} {X : Cx}
theorem cr_reprS : CallR X (.builtin "repr") (fun xs H Q => ∃ v, xs = [v] ∧ rReprS v H Q) := CallR.by (CallR.or (CallR.or SkE.call_repr_int call_repr_bool) (CallR.or call_repr_str call_repr_none)) fun xs H Q ⟨v, e, h⟩ => by
  subst e
  rcases h with (⟨i, rfl, h⟩ | ⟨b, rfl, h⟩) | ⟨x, rfl, h⟩ | ⟨rfl, h⟩
  · exact .inl (.inl ⟨i, rfl, h⟩)
  · exact .inl (.inr ⟨b, rfl, h⟩)
  · exact .inr (.inl ⟨x, rfl, h⟩)
  · exact .inr (.inr ⟨rfl, h⟩)
theorem reprS_ok {F : Fr} {ρ : List Sl} {P : Pot} {σ : L2.St} {H G : Hp} {v : V} {d : D} {Q : VK} (R : Rel c F ρ P σ H G) (r : c.rep G v d) (q : out (reprS d) P (fun d P' => ∀ v H' G', Ext G G' → Rel c F ρ P' σ H' G' → c.rep G' v d → Q v H') (fun _ _ => False)) : rReprS v H Q := by
  cases d with
  | int z =>
    have q : out (if z.natAbs.log2 < 1920 then Pure.pure (D.str (toString z)) else M.no) P _ _ := q
    rw [r.int_of]
    by_cases y : z.natAbs.log2 < 1920
    · rw [if_pos y] at q
      exact .inl (.inl ⟨z, rfl, y, q _ H G (Ext.refl _) R (.str _)⟩)
    · rw [if_neg y] at q; exact q.elim
  | bl b =>
    rw [r.bl_of]
    exact .inl (.inr ⟨b, rfl, q _ H G (Ext.refl _) R (.str _)⟩)
  | str x =>
    have q : out (if (reprText x).length ≤ sizeLine then Pure.pure (D.str (reprText x)) else M.no) P _ _ := q
    cases r
    by_cases y : (reprText x).length ≤ sizeLine
    · rw [if_pos y] at q
      exact .inr (.inl ⟨x, rfl, y, q _ H G (Ext.refl _) R (.str _)⟩)
    · rw [if_neg y] at q; exact q.elim
  | non =>
    cases r
    exact .inr (.inr ⟨rfl, q _ H G (Ext.refl _) R (.str _)⟩)
  | _ => exact q.elim
end
/-- a clause, by what it does -/
inductive CL where
  | txt (cv : Value) (m : Str)
  | rep (C : Addr) (i : Nat) (m f : Str)
  | nev (cv : Value) (o : Option Nat)
def CL.cl (K : PySem.W.Frag) : CL → Clau
  | .txt cv m => (cv, none, fun _ _ _ D _ H => D.rt (.str m) H)
  | .rep C i m f => (.ref C, some i, fun a cls d D σ H => cls = .ref C ∧ ∃ ad v, d = some ad ∧ σ[i]? = some (some (.ref a)) ∧ H ad = some (.xd [(f, v)]) ∧ rReprS v H fun y H2 => rAddD K (.str m) y H2 fun w H3 => D.rt w H3)
  | .nev cv o => (cv, o, fun _ _ _ _ _ _ => False)
def chain (K : PySem.W.Frag) (Q : VK) : List CL → Value → Option Addr → Hp → Prop
  | [], _, _, _ => False
  | .txt cv m :: r, cls, d, H => ∃ b, PySem.W.exmOne K cls cv = some b ∧ (b = true → Q (.str m) H) ∧ (b = false → chain K Q r cls d H)
  | .rep C i m f :: r, cls, d, H => ∃ b, PySem.W.exmOne K cls (.ref C) = some b ∧ (b = true → cls = .ref C ∧ ∃ ad v, d = some ad ∧ H ad = some (.xd [(f, v)]) ∧ rReprS v H fun y H2 => rAddD K (.str m) y H2 Q) ∧ (b = false → chain K Q r cls d H)
  | .nev cv o :: r, cls, d, H => PySem.W.exmOne K cls cv = some false ∧ chain K Q r cls d H
theorem chain_mix {K : PySem.W.Frag} {Q : VK} {D : Ends} (hD : D.rt = Q) : ∀ (l : List CL) (cls : Value) (d : Option Addr) (σ : L2.St) (H : Hp), chain K Q l cls d H → wMix K (fun _ _ _ _ => False) D (l.map (CL.cl K)) cls d σ H
  | [], _, _, _, _, h => h
  | .txt cv m :: r, cls, d, σ, H, ⟨b, e, y, n⟩ => ⟨b, e, fun z a _ => by show D.rt _ _; rw [hD]; exact y z, fun z => chain_mix hD r cls d σ H (n z)⟩
  | .rep C i m f :: r, cls, d, σ, H, ⟨b, e, y, n⟩ => ⟨b, e, fun z a _ put => by
      obtain ⟨e1, ad, v, e2, e3, q⟩ := y z
      refine ⟨e1, ad, v, e2, put, e3, ?_⟩
      show rReprS v H fun y H2 => rAddD K (.str m) y H2 fun w H3 => D.rt w H3
      rw [hD]
      exact q, fun z => chain_mix hD r cls d σ H (n z)⟩
  | .nev cv o :: r, cls, d, σ, H, ⟨e, h⟩ => ⟨false, e, fun z => (nomatch z), fun _ => chain_mix hD r cls d σ H h⟩
def repS (m f : Str) : Ex → M (Fl Unit) := fun e => match e.kept with
  | some (g, d) => if g = f then reprS d >>= fun x => addD (.str m) x >>= fun r => Pure.pure (.rt r) else M.no
  | none => M.no
/-- the clauses of a def that is given a lambda -/
inductive HdsL (c : Cn) (sg : Scope) (Ng : List Str) : List ExceptHandler → List CL → List (Hd Unit) → Prop
  | nil : HdsL c sg Ng [] [] []
  | txt {x m : Str} {cv : Value} {is : Str → Option Bool} {j : Nat} {np q1 q2 q3 : Pos} {hds : List ExceptHandler} {l : List CL} {r : List (Hd Unit)} (hge : sg.names.lookup x = some .globalImplicit) (hme : c.mg x = some cv) (hde : (x == ("__debug__" : Str)) = false) (ok : HdOk c is cv) (t : HdsL c sg Ng hds l r) :
      HdsL c sg Ng (.ExceptHandler (some (.Name x np)) none [.Return (some (.Constant (.str m) j q1)) q2] q3 :: hds) (.txt cv m :: l) ((is, fun _ => Pure.pure (.rt (.str m))) :: r)
  | rep {x n m f : Str} {i j : Nat} {C fI : Addr} {B newId initId : String} {bmB : List Value} {is : Str → Option Bool} {np p1 p2 p3 p4 p5 p6 p7 q3 : Pos} {hds : List ExceptHandler} {l : List CL} {r : List (Hd Unit)} (hge : sg.names.lookup x = some .globalImplicit) (T : PySem.KepX.KTxt c.K c.mg x f B newId initId bmB C fI) (hde : (x == ("__debug__" : Str)) = false) (ok : HdOk c is (.ref C)) (only : ∀ y, is y = some true → y = x)
      (hi : Ng[i]? = some n) (hn : sg.names.lookup n = some .local) (hv : Vis sg n) (hr : sg.names.lookup ("repr" : Str) = some .globalImplicit) (mr : c.mg "repr" = none) (hnd : (n == ("__debug__" : Str)) = false) (hnc : (n == ("__classdict__" : Str)) = false) (t : HdsL c sg Ng hds l r) :
      HdsL c sg Ng (.ExceptHandler (some (.Name x np)) (some n) [.Return (some (.BinOp (.Constant (.str m) j p1) .Add (.Call (.Name "repr" p2) [.Attribute (.Name n p3) f p4] [] p5) p6)) p7] q3 :: hds) (.rep C i m f :: l) ((is, repS m f) :: r)
  | nev {x n : Str} {i : Nat} {cv : Value} {is : Str → Option Bool} {h : Ex → M (Fl Unit)} {st : Stmt} {np q3 : Pos} {hds : List ExceptHandler} {l : List CL} {r : List (Hd Unit)} (hge : sg.names.lookup x = some .globalImplicit) (hme : c.mg x = some cv) (hde : (x == ("__debug__" : Str)) = false) (ok : HdOk c is cv) (no : ∀ y, is y ≠ some true)
      (hi : Ng[i]? = some n) (hn : sg.names.lookup n = some .local) (t : HdsL c sg Ng hds l r) :
      HdsL c sg Ng (.ExceptHandler (some (.Name x np)) (some n) [st] q3 :: hds) (.nev cv (some i) :: l) ((is, h) :: r)
section
variable {c : Cn} {X : Cx}
theorem HdsL.hds {sg : Scope} {Ng : List Str} {hds : List ExceptHandler} {l : List CL} {r : List (Hd Unit)} (h : HdsL c sg Ng hds l r) (hK : X.K = c.K) (hm : X.mg = c.mg) (hN : X.N = Ng) (hs : X.env.scope = sg) (hgl : ∀ y, sg.names.lookup y = some .globalImplicit → Gl X y)
    (hpv : ∀ (a : Addr) (pn : List (Addr × Obj)) (i : Nat) (n : Str) (p : Pos), Ng[i]? = some n → Vis sg n → (n == ("__debug__" : Str)) = false → (n == ("__classdict__" : Str)) = false → PE (X.suite a pn) (.Name n p) (tVar i)) : HdsM X hds (l.map (CL.cl X.K)) := by
  induction h with
  | nil => exact .nil
  | txt hge hme hde ok t ih => exact .cons ⟨hgl _ hge, hde, .inl (by rw [hm]; exact hme)⟩ (fun a oe cls d pn _ _ => pss_one (ps_ret pe_str)) ih
  | @rep x n m f i j C fI B newId initId bmB is np p1 p2 p3 p4 p5 p6 p7 q3 hds l r hge T hde ok only hi hn hv hr mr hnd hnc t ih =>
    refine .named ⟨hgl _ hge, hde, .inl (by rw [hm]; exact T.gC)⟩ (by rw [hN]; exact hi) (by show X.env.scope.names.lookup n = _; rw [hs]; exact hn) (fun a oe cls d pn hz hf => ?_) ih
    have xf : XfC X.K C := by rw [hK]; exact ktxt_xf T
    have no : PySem.W.findIn X.K (.ref C) f = some none := by rw [hK]; exact T.noN
    have fld := pe_xf (X := X) (pn := pn) (pos := p4) xf no hz hf (hpv a _ i n p3 hi hv hnd hnc)
    have call := pe_callB (X := X.suite a ((a, oe) :: pn)) (p := p2) (pos := p5) cr_reprS (hgl _ hr) (show X.mg "repr" = none by rw [hm]; exact mr) (by decide +kernel) (pa_cons fld pa_nil) (by decide) (by decide)
    refine pss_by (pss_one (ps_ret (pos := p7) (pe_op (pos := p6) opr_add (pe_str (x := m) (j := j) (pos := p1)) call))) fun D σ H ⟨ec, ad, v, ed, si, ha, q⟩ => ?_
    subst ec ed
    show ∃ u, σ[i]? = some (some u) ∧ _
    refine ⟨.ref a, si, rfl, rfl, ad, [(f, v)], v, rfl, ha, by simp [List.lookup], ?_⟩
    exact ⟨v, rfl, q⟩
  | nev hge hme hde ok no hi hn t ih => exact .named ⟨hgl _ hge, hde, .inl (by rw [hm]; exact hme)⟩ (by rw [hN]; exact hi) (by show X.env.scope.names.lookup _ = _; rw [hs]; exact hn) (fun a oe cls d pn _ _ => ⟨fun pins s σ H D I h => h.elim⟩) ih
theorem HdsL.want {sg : Scope} {Ng : List Str} {hds : List ExceptHandler} {l : List CL} {r : List (Hd Unit)} (h : HdsL c sg Ng hds l r) {F : Fr} {ρ : List Sl} {e : Ex} {cl : Value} {dd : Option Addr} {σ : L2.St} {H G : Hp} {P : Pot} {Q : VK} {EX : Ex → Pot → Prop} (R : Rel c F ρ P σ H G) (x : ExOk c H G e cl dd)
    (q : out (pick r e) P (fun f P' => out (doneF (α := Unit) f) P' (fun d P2 => ∀ v H' G', Ext G G' → Rel c F ρ P2 σ H' G' → c.rep G' v d → Q v H') EX) (fun _ _ => False)) : chain c.K Q l cl dd H := by
  induction h with
  | nil => exact q.elim
  | @txt y m cv is j np q1 q2 q3 hds l r hge hme hde ok t ih =>
    unfold pick at q
    cases hi : is e.c with
    | none => simp only [hi] at q; exact q.elim
    | some b =>
      have hb : PySem.W.exmOne c.K cl cv = some b := ok.ok _ _ hi _ x.1
      refine ⟨b, hb, fun z => ?_, fun z => ?_⟩
      · subst z
        simp only [hi] at q
        have q := out_noEx q
        exact (show ∀ v H' G', Ext G G' → Rel c F ρ P σ H' G' → c.rep G' v (.str m) → Q v H' from q) (.str m) H G (Ext.refl _) R (.str m)
      · subst z
        simp only [hi] at q
        exact ih q
  | @rep y n m f i j C fI B newId initId bmB is np p1 p2 p3 p4 p5 p6 p7 q3 hds l r hge T hde ok only hi hn hv hr mr hnd hnc t ih =>
    unfold pick at q
    cases hi2 : is e.c with
    | none => simp only [hi2] at q; exact q.elim
    | some b =>
      have hb : PySem.W.exmOne c.K cl (.ref C) = some b := ok.ok _ _ hi2 _ x.1
      refine ⟨b, hb, fun z => ?_, fun z => ?_⟩
      · subst z
        simp only [hi2] at q
        have q := out_noEx q
        have ey := only _ hi2
        obtain ⟨x1, x2⟩ := x
        rw [ey, T.gC] at x1
        have ecl : cl = .ref C := (Option.some.inj x1).symm
        unfold repS at q
        obtain ⟨ec, kept⟩ := e
        cases kept with
        | none => exact q.elim
        | some gd =>
          obtain ⟨g, d⟩ := gd
          obtain ⟨ad, v, e1, e2, rv⟩ := x2
          dsimp only at q
          by_cases z : g = f
          · subst z
            rw [if_pos rfl] at q
            refine ⟨ecl, ad, v, e1, e2, ?_⟩
            refine reprS_ok R rv (out_mono (out_bind.mp q) (fun x P1 q1 u H1 G1 e1 R1 r1 => ?_) fun _ _ z => z)
            refine opd_add (c := c) F ρ (fun _ _ _ _ => False) P1 σ H1 G1 (.str m) u (.str m) x Q R1 (.str m) r1 (out_mono (out_bind.mp q1) (fun r P2 q2 u2 H2 G2 e2 R2 r2 => ?_) fun _ _ z => z.elim)
            exact (show ∀ v H' G', Ext G G' → Rel c F ρ P2 σ H' G' → c.rep G' v r → Q v H' from q2) u2 H2 G2 (e1.trans e2) R2 r2
          · rw [if_neg z] at q
            exact q.elim
      · subst z
        simp only [hi2] at q
        exact ih q
  | @nev y n i cv is h st np q3 hds l r hge hme hde ok no hi hn t ih =>
    unfold pick at q
    cases hi2 : is e.c with
    | none => simp only [hi2] at q; exact q.elim
    | some b =>
      cases b with
      | true => exact absurd hi2 (no _)
      | false =>
        simp only [hi2] at q
        exact ⟨ok.ok _ _ hi2 _ x.1, ih q⟩
/-- what comes of x(lambda: e) -/
def lamM (hs : List (Hd Unit)) (m : M D) : M D := fun P => match m P with
  | .ok d p => .ok d p
  | .ex e p => (noEx (pick hs e) >>= doneF) p
  | .no => .no
def TTmix (K : PySem.W.Frag) (l : List CL) : (XK → Hp → VK → Prop) → Hp → VK → Prop := fun tl H Q => tl (fun cls d H' => chain K Q l cls d H') H Q
theorem mix_gives {Ng : List Str} {x a q : Str} {sg : Scope} {g : Addr} {cdg : Value} {h₀ : ExceptHandler} {hds : List ExceptHandler} {l : List CL} {hs : List (Hd Unit)} {p1 p2 p3 p8 : Pos} (hh : HdsL c sg Ng (h₀ :: hds) l hs) (hK : X.K = c.K) (hm : X.mg = c.mg) (hN : Ng.Nodup)
    (h0 : ∀ f : Addr, (L2.start Ng [V.ref f])[0]? = some (some (V.ref f))) : LamX.GivesTo X Ng x sg g cdg [.Try [.Return (some (.Call (.Name a p1) [] [] p2)) p3] (h₀ :: hds) [] [] p8] a q (TTmix X.K l) := by
  intro f c' s H Q tl act hc h
  let Z : Cx := (cxOf C8.CX0 X.prog X.w X.K X.mg X.base Ng x sg g cdg X.A X.stack s H C8.E0).nox
  let ch : XK := fun cls d H' => chain X.K Q l cls d H'
  have hM : HdsM Z (h₀ :: hds) (l.map (CL.cl Z.K)) := hh.hds (X := Z) hK hm rfl rfl (fun y h => h) fun a pn i n p hi hv hd hcd => pe_var (X := Z.suite a pn) hi hv hd hcd
  let tb : WX → TS := fun W D σ H' => (∀ cls d σ' H'', ch cls d H'' → W cls d σ' H'') ∧ σ[0]? = some (some (.ref f)) ∧ H' c' = some (LamX.CodeO c' q) ∧ tl ch H' D.rt
  have body : ∀ (W : WX) (pn : List (Addr × Obj)) (xe : Value → Shared → Prop), Takes (Z.tr pn xe) W → PassesOwn (model Z.prog Z.w) Z.A Z.env xe → PSs (Z.tr pn xe) [.Return (some (.Call (.Name a p1) [] [] p2)) p3] (tb W) := fun W pn xe tk _ =>
    ⟨fun pins s' σ H' D I ⟨hW, z1, z2, z3⟩ => (pss_one (ps_ret (pos := p3) (act W pn xe ch p1 p2 tk hW))).run pins s' σ H' D I ⟨z1, z2, z3⟩⟩
  have st := ps_try_mix (X := Z) (tb := tb) (pos := p8) (Wo := fun _ _ _ _ => False) rfl rfl hN LamX.takes0 body hM
  exact ⟨_, pss_one st, fun cls d σ' H' z => chain_mix rfl l cls d σ' H' z, h0 f, hc, h⟩
end
end DL
namespace DL
open PySem PySem.Spec PyProof.Rows L2
/-- the def that gets the lambda: try: return a() / its clauses -/
structure LamDefX (c : Cn) (x a : Str) (hs : List (Hd Unit)) : Prop where
  ex : ∃ (g : Addr) (fd : FuncData) (st : Stmt) (Ng : List Str) (h₀ : ExceptHandler) (hds : List ExceptHandler) (l : List CL) (p1 p2 p3 p8 : Pos), c.mg x = some (.ref g) ∧ PySem.W.keepIn c.K (.ref g) = true ∧ Fun c.K x x st g fd ∧ defBody st = [.Try [.Return (some (.Call (.Name a p1) [] [] p2)) p3] (h₀ :: hds) [] [] p8] ∧ Binds c.K fd [a] [] ∧
    FnScope Ng [a] (defScope st) ∧ Ng[0]? = some a ∧ Vis (defScope st) a ∧ (∀ f : Addr, (L2.start Ng [V.ref f])[0]? = some (some (V.ref f))) ∧ HdsL c (defScope st) Ng (h₀ :: hds) l hs
end DL
namespace DL
open PySem PySem.Spec PyProof.Rows L2
end DL
namespace DL
open PySem PySem.Spec PyProof.Rows L2
section
variable {X : Cx}
/-- what is known of the lambda's body: its surroundings have the guards of those who make it -/
def LamB (X : Cx) (k : Nat) (scope : Scope) (body : Expr) (t : XK → TE) : Prop :=
  ∀ (A : Around) (outer : List Env) (s : Shared) (H : Hp) (E : XK) (f c' : Addr), A.guards = X.A.guards → Room k (A.deeper (LamX.lamEnv X scope s.heap.objs.size f c')) → PE (LamX.lamCx X A outer s H E scope f c') body (t E)
/-- the call of the lambda in the def that got it -/
theorem lam_called {pins : List (Addr × Obj)} {σ : L2.St} {H : Hp} {s : Shared} {Ng : List Str} {qg : Str} {sg : Scope} {g f c' : Addr} {cdg pm ctv : Value} {params : Arguments} {body : Expr} {scope : Scope} {k i : Nat} {a : Str} {pn : List (Addr × Obj)} {xe : Value → Shared → Prop} {W : WX} {E : XK} {t : XK → TE} {p1 p2 : Pos}
    (I : Inv X pins σ H s) (L : LamX.LamS X.env.scope scope) (of : s.heap.get? f = some (PySem.W.kla_obj "<lambda>" (X.env.qual ++ "<lambda>") params body scope (cloFrom X.env.cells scope.names []) pm c' ctv)) (nf : H f = none) (nr : f ∉ frs X.stack)
    (hbind : bindArgs (PySem.W.kla_fn "<lambda>" (X.env.qual ++ "<lambda>") params body scope (cloFrom X.env.cells scope.names []) pm (.ref c') ctv) ⟨[], []⟩ = pure [])
    (tk : Takes ((cxOf C8.CX0 X.prog X.w X.K X.mg X.base Ng qg sg g cdg X.A X.stack s H C8.E0).tr pn xe) W) (hW : ∀ cls d σ' H', E cls d H' → W cls d σ' H') (hr : Room (k + 1) (X.A.deeper (envOfC qg sg s.heap.objs.size g cdg))) (B : LamB X k scope body t)
    (hN : Ng[i]? = some a) (hv : Vis sg a) (hd : (a == ("__debug__" : Str)) = false) (hcd : (a == ("__classdict__" : Str)) = false) :
    PE ((cxOf C8.CX0 X.prog X.w X.K X.mg X.base Ng qg sg g cdg X.A X.stack s H C8.E0).tr pn xe) (.Call (.Name a p1) [] [] p2) (fun σZ HZ Q => σZ[i]? = some (some (.ref f)) ∧ HZ c' = some (LamX.CodeO c' (X.env.qual ++ "<lambda>")) ∧ t E σ HZ Q) := by
  let AZ : Around := X.A.deeper (envOfC qg sg s.heap.objs.size g cdg)
  refine ⟨fun pinsZ sZ σZ HZ Q IZ ⟨hs, hc, ht⟩ => ?_⟩
  have name := (pe_var (pos := p1) (i := i) hN hv hd hcd).run pinsZ sZ σZ HZ (fun v H1 => v = .ref f ∧ H1 = HZ) IZ ⟨.ref f, hs, rfl, rfl⟩
  refine wpAny_Call_Name_kw (thn name fun u s1 ⟨v, H1, I1, r1, ev, eH⟩ => ?_)
  subst ev eH
  obtain rfl : u = Value.ref f := r1
  have of1 := I1.base.keep f _ of nf nr (fun z => nomatch (show f ∈ ([] : List Addr) from z))
  refine PySem.W.callWith_F0 ⟨_, _, _, _, of1⟩ ?_
  have un : Un (frs X.stack) [] H H1 s.heap s1.heap := I1.base
  obtain ⟨⟨oc, vs, tok, e1, e2, e3⟩, _, _⟩ := I1.hok c' _ hc
  have run : codeAny (model X.prog X.w) AZ (.call (.ref f) ⟨[], []⟩) (CR (L2.CX X.prog X.w) (envOfC qg sg s.heap.objs.size g cdg :: X.stack) X.prog X.w H1 s1 Q E) s1 := by
    refine PySem.W.kla_callFunE hr.depth of1 rfl L.co L.gen rfl ⟨c', oc, vs, tok, rfl, e1, e2, e3⟩ ?_
    rw [hbind]
    refine wpAny_pure (wpAny_newFunctionEnv (fun y hy => (L.own y hy).2) (fun y hy => nomatch hy) (fun h₁ hns hsb => ⟨I1.nolimit.fresh _ hsb, ?_⟩) L.kind)
    have J := LamX.lam_start2 (c' := c') (f := f) (E := E) (tk := s1.toks) I L I1.env0 hr.hd un hns fun b o e => hsb.extBut b o (Nat.ne_of_lt (Heap.lt_size e)) (Heap.get?_push_of_some _ e)
    have body := (B AZ _ s1 H1 E f c' rfl (hr.deeper _)).run [] _ _ H1 Q J ht
    refine PySem.W.kla_codeExpr (wpAny_mono body (fun v s' hq => ?_) fun e s' hq => hq)
    obtain ⟨w', H', J', rv, q⟩ := hq
    exact ⟨w', H', J'.os, J'.bare, J'.base, J'.hok, rv, q⟩
  refine wpAny_call (codeAny_mono run fun r s' hq => ?_)
  cases r with
  | error e => exact passes_call (X := (cxOf C8.CX0 X.prog X.w X.K X.mg X.base Ng qg sg g cdg X.A X.stack s H C8.E0).tr pn xe) tk hW pinsZ σZ H1 s1 e s' I1 hq
  | ok fl =>
    cases fl with
    | ret u => exact I1.after hq
    | next => exact hq.elim
    | brk => exact hq.elim
    | cont => exact hq.elim
/-- the def called with the lambda -/
theorem lam_given {T : List (Addr × Str)} {TT : (XK → Hp → VK → Prop) → Hp → VK → Prop} {x a : Str} {g c P : Addr} {k : Nat} {pg : Arguments} {bg : List Stmt} {sg : Scope} {dV kV doc pm cdv ct oc : Value} {an od : Option Addr} {osl : Array (Option Value)} {Ng : List Str}
    {params : Arguments} {body : Expr} {scope : Scope} {t : XK → TE} {p lpos pos : Pos} (hg : Gl X x) (hm : X.mg x = some (.ref g)) (hk : PySem.W.keepIn X.K (.ref g) = true)
    (lk : X.K.lookup g = some ⟨oc, od, .func (PySem.W.fnOf x x pg bg sg dV kV doc pm an cdv ct), osl⟩) (hcg : PySem.W.codeIn X.K cdv x = true) (hb : L2.Binds X.K (PySem.W.fnOf x x pg bg sg dV kV doc pm an cdv ct) [a] []) (Sg : FnScope Ng [a] sg) (hNg : Ng[0]? = some a) (hva : Vis sg a)
    (hG : LamX.GivesTo X Ng x sg g cdv bg a (X.env.qual ++ "<lambda>") TT)
    (TB : LamX.TabB X.base X.mg c P) (hcode : X.env.code = .ref c) (hmT : (P, X.env.qual ++ "<lambda>") ∈ T) (hu : ∀ p ∈ T, p.1 = P → p.2 = X.env.qual ++ "<lambda>") (hr : Room (k + 2) X.A) (L : LamX.LamS X.env.scope scope) (hdef : defaultsOf params X.env = ([], []))
    (hbind : ∀ (q : Str) (cl : List (Str × Addr)) (pm cv ctv : Value), bindArgs (PySem.W.kla_fn "<lambda>" q params body scope cl pm cv ctv) ⟨[], []⟩ = pure []) (B : LamB X k scope body t)
    (hdb : (x == ("__debug__" : Str)) = false) (hd : (a == ("__debug__" : Str)) = false) (hcd : (a == ("__classdict__" : Str)) = false) :
    PE X (.Call (.Name x p) [.Lambda params body scope lpos] [] pos) (LamX.tLam T TT t) := by
  refine ⟨fun pins s σ H Q I ⟨hT, h⟩ => wpAny_Call_Name_kw (ld_glob I hg hm (PySem.W.callWith_K (h₀ := X.base) I.ok.mod.kin hk ?_ (by rfl) (by rfl)) hdb)⟩
  show wpAny _ _ (spliced ((false, eval (.Lambda params body scope lpos) X.env) :: backTo pos (starEach [] X.env))) _ _ s
  refine Calls.spliced_cons (LamX.lam_make2 I TB hcode hmT hu hT hdef (L.has I.ok) fun f c' pm' ctv H1 s' I1 eN T1 of nf nr hco => Calls.spliced_nil ⟨I1.kIn, ?_⟩)
  have run : codeAny (model X.prog X.w) X.A (.call (.ref g) ⟨[.ref f], []⟩) (CR C8.CX0 X.stack X.prog X.w H1 s' Q C8.E0) s' := by
    refine LamX.run_ofS (N := Ng) (ps := [a]) (us := [.ref f]) (vs := [.ref f]) lk hcg Sg hr I1.env0 (hb s' [.ref f] I1.kIn rfl) (.cons rfl .nil) rfl fun hr' => ?_
    obtain ⟨t', ht', hq'⟩ := hG f c' s' H1 Q (fun E H' Q' => t E σ H' Q') (fun W pn xe E p1 p2 tk hW => lam_called (i := 0) I1 L of nf nr (hbind _ _ _ _ _) tk hW hr' B hNg hva hd hcd) hco (h H1 eN T1)
    exact ⟨t', ht'.nox, hq'⟩
  refine wpAny_call (codeAny_mono run fun r s2 hq => ?_)
  cases r with
  | error e => exact (show False from hq).elim
  | ok fl =>
    cases fl with
    | ret u => exact I1.after hq
    | next => exact hq.elim
    | brk => exact hq.elim
    | cont => exact hq.elim
end
end DL
namespace DL
open PySem PySem.Spec PyProof.Rows L2
section
variable {c : Cn} {X : Cx} {F : Fr} {W : WX} {ρ : List Sl} {k : Nat}
theorem de_lamY {hs : List (Hd Unit)} {m : M D} {x a : Str} {cc P : Addr} {p lpos pos : Pos} {params : Arguments} {body : Expr} {scope : Scope} (C : Ctx c X (k + 2)) (hg : Gl X x) (Dx : LamDefX c x a hs)
    (A : LamAt c X.base cc P (X.env.qual ++ "<lambda>")) (hcode : X.env.code = .ref cc) (L : LamX.lamSB X.env.scope scope = true) (hdef : defaultsOf params X.env = ([], []) := by rfl)
    (hbind : ∀ (q : Str) (cl : List (Str × Addr)) (pm cv ctv : Value), bindArgs (PySem.W.kla_fn "<lambda>" q params body scope cl pm cv ctv) ⟨[], []⟩ = pure [] := by intros; rfl)
    (hbody : ∀ (A : Around) (outer : List Env) (s : Shared) (H : Hp) (E : XK) (f c' : Addr) (F0 : Fr), F0.ap = F.ap → BodyX c (LamX.lamCx X A outer s H E scope f c') k (fun cl dd _ H => E cl dd H) → PE (LamX.lamCx X A outer s H E scope f c') body (rdE c F0 (fun cl dd _ H => E cl dd H) (ρ.map unO) m))
    (hdb : (x == ("__debug__" : Str)) = false := by decide) (hda : (a == ("__debug__" : Str)) = false := by decide) (hca : (a == ("__classdict__" : Str)) = false := by decide) :
    PE X (.Call (.Name x p) [.Lambda params body scope lpos] [] pos) (rdE c F W ρ (lamM hs m)) := by
  obtain ⟨g, fd, st, Ng, h₀, hds, l, p1, p2, p3, p8, hm, hk, Fn, hst, hb, Sg, hNg, hva, h0, hh⟩ := Dx.ex
  have tb : LamX.TabB X.base X.mg cc P := by rw [C.mg]; exact A.tb
  obtain ⟨oc, od, kV, doc, pm, an, cdv, ct, osl, rfl, lk, hcd⟩ := Fn.ex
  have t : LamB X k scope body (fun E σ H Q => ∃ F0 : Fr, F0.ap = F.ap ∧ rdE c F0 (fun cl dd _ H => E cl dd H) (ρ.map unO) m σ H Q) := fun A outer s H E f c' hA hr =>
    ⟨fun pins s' σ H' Q I ⟨F0, hF, z⟩ => (hbody A outer s H E f c' F0 hF ⟨⟨C.mg, C.K, hA.trans C.ga, hr⟩, takes_of rfl rfl rfl rfl, passes_of rfl⟩).run pins s' σ H' Q I z⟩
  have call := lam_given (X := X) (T := c.T) (TT := TTmix X.K l) (pos := pos) (lpos := lpos) (p := p) hg (by rw [C.mg]; exact hm) (by rw [C.K]; exact hk) (by rw [C.K]; exact lk) (by rw [C.K]; exact hcd) (by rw [C.K]; exact hb) Sg hNg hva
    (by rw [show defBody st = _ from hst]; exact mix_gives hh C.K C.mg Sg.nd h0) tb hcode A.on A.one C.rm (LamX.lamS_by L) hdef hbind t hdb hda hca
  refine pe_by call fun σ H Q ⟨P0, G, R, q⟩ => ⟨R.post.tab, fun H1 eN T1 => ?_⟩
  have R1 := R.extN eN T1
  refine ⟨⟨G, H1, F.ap⟩, rfl, P0, G, R1.sub, ?_⟩
  unfold out lamM at q
  unfold out
  cases hmP : m P0 with
  | no => rw [hmP] at q; exact q.elim
  | ok d p =>
    rw [hmP] at q
    exact fun v H' G' e R' r' => (show ∀ v H' G', Ext G G' → Rel c F ρ p σ H' G' → c.rep G' v d → Q v H' from q) v H' G' e (R1.after R'.post) r'
  | ex x p =>
    rw [hmP] at q
    dsimp only at q
    have q : out (noEx (pick hs x) >>= doneF) p (fun d P' => ∀ v H' G', Ext G G' → Rel c F ρ P' σ H' G' → c.rep G' v d → Q v H') (exW c F W P0 G σ) := q
    have q2 := out_noEx (out_bind.mp q)
    intro cl dd H' G' ρ' e R' k'
    rw [C.K]
    refine hh.want (R1.after R'.post) k' (out_mono q2 (fun f P' z => out_mono z (fun d P2 z2 v H2 G2 e2 R2 r2 => z2 v H2 G2 (e.trans e2) R2 r2) fun _ _ z => z) fun _ _ z => z)
end
end DL
namespace DL
open PySem PySem.Spec PyProof.Rows L2
/-- the heap that a law starts from: the script, if it is new, and the tables, empty -/
def hpT (ts : List Addr) (a : Addr) (o : Option HO) : Hp := fun b => if b ∈ ts then some (.tbl #[]) else if b = a then o else none
theorem law_callT {P : Program} {w : World} {K : PySem.W.Frag} {mg mb : Str → Option Value} {k : Nat} {fa a : Addr} {cs : List (Addr × Addr)} {fd : FuncData} {x : Str} {sp : Sp} {s₁ : Shared} {vs : List Value} {ns : List Int}
    (kx : K.In s₁.heap) (hns : s₁.heap.Ns mainGlobals mg) (hb : s₁.heap.Ns builtinsNs mb) (hbb : ∀ x : Str, x ≠ "__name__" → mb x = bootBuiltins x) (nl : s₁.heap.NoLimit) (hg : s₁.gens = #[])
    (hT : ∀ p ∈ cs, s₁.heap.get? p.2 = some { cls := .none, data := .fields #[] }) (nT : ∀ p ∈ cs, K.lookup p.2 = none) (hC : ∀ p ∈ cs, PySem.W.CodeHd s₁.heap p.1 p.2)
    (hbm : ∃ (bm : Addr) (ob : Obj), mg "__builtins__" = some (.ref bm) ∧ bm ≠ builtinsNs ∧ s₁.heap.get? bm = some ob ∧ ob.cls = .type "module" ∧ ob.dict = some builtinsNs ∧ ob.data = .plain)
    (ha : s₁.heap.get? a = some { cls := .type "list", data := .seq vs.toArray }) (hi : IntsAre vs ns) (hl : ns.length ≤ sizeLine) (hr : Room k callerA)
    (F : ∀ base : Heap, K.In base → base.Ns mainGlobals mg → (∀ p ∈ cs, LamX.TabB base mg p.1 p.2) → FnG P w K mg base k fa fd [x] sp) (hbind : ∀ (s : Shared) (u : Value), BindsTo s fd ⟨[u], []⟩ [(x, u)])
    (hsp : ∀ H : Hp, (∀ p ∈ cs, H p.2 = some (.tbl #[])) → SqL K H a (ns.map V.int) → sp [.ref a] H (fun v _ => v = .bl true) fun _ _ _ => False) :
    codeAny (model P w) callerA (.call (.ref fa) ⟨[.ref a], []⟩) (fun r s' => r = .ok (.ret (.bool true)) ∧ OldK s₁.heap s'.heap ∧ s'.os = s₁.os ∧ AllBare s'.gens) s₁ := by
  have rv := vals_ints hi
  have lv := hi.length
  let ts : List Addr := cs.map (·.2)
  have inT : ∀ p ∈ cs, p.2 ∈ ts := fun p hp => List.mem_map_of_mem hp
  have atT : ∀ b ∈ ts, s₁.heap.get? b = some { cls := .none, data := .fields #[] } := fun b h => by
    obtain ⟨p, hp, rfl⟩ := List.mem_map.mp h
    exact hT p hp
  have kT : ∀ b ∈ ts, K.lookup b = none := fun b h => by
    obtain ⟨p, hp, rfl⟩ := List.mem_map.mp h
    exact nT p hp
  have na : a ∉ ts := fun h => by
    have z := atT a h
    rw [ha] at z
    exact nomatch congrArg (fun o => o.map Obj.cls) z
  let oa : HO := .frz { cls := .type "list", data := .seq vs.toArray } (.lst (ns.map V.int))
  have main : ∀ o : Option HO, (o = none ∨ o = some oa) → SqL K (hpT ts a o) a (ns.map V.int) → (o ≠ none → K.lookup a = none) →
      codeAny (model P w) callerA (.call (.ref fa) ⟨[.ref a], []⟩) (fun r s' => r = .ok (.ret (.bool true)) ∧ OldK s₁.heap s'.heap ∧ s'.os = s₁.os ∧ AllBare s'.gens) s₁ := by
    intro o ho sq apart
    have tb : ∀ b ∈ ts, hpT ts a o b = some (.tbl #[]) := fun b h => if_pos h
    have sc : hpT ts a o a = o := (if_neg na).trans (if_pos rfl)
    have ot : ∀ b, b ∉ ts → b ≠ a → hpT ts a o b = none := fun b h n => (if_neg h).trans (if_neg n)
    have cases_ : ∀ b u, hpT ts a o b = some u → (b ∈ ts ∧ u = .tbl #[]) ∨ (b = a ∧ o = some oa ∧ u = oa) := fun b u e => by
      by_cases h : b ∈ ts
      · exact .inl ⟨h, (Option.some.inj ((tb b h).symm.trans e)).symm⟩
      · by_cases n : b = a
        · subst n
          rw [sc] at e
          rcases ho with z | z
          · rw [z] at e; cases e
          · exact .inr ⟨rfl, z, (Option.some.inj (z.symm.trans e)).symm⟩
        · rw [ot b h n] at e; cases e
    have ok : HOk P w (hpT ts a o) s₁.heap := fun b u e => by
      rcases cases_ b u e with ⟨h, rfl⟩ | ⟨rfl, _, rfl⟩
      · exact atT b h
      · exact ⟨ha, by rw [List.length_map]; exact hl, vs, _, rv, ha⟩
    have free : ∀ {b : Addr} {ob : Obj}, s₁.heap.get? b = some ob → ob.data ≠ .seq vs.toArray → ob.data ≠ .fields #[] → hpT ts a o b = none := fun {b ob} e d1 d2 => by
      refine ot b (fun h => ?_) fun n => ?_
      · rw [atT b h] at e; cases e; exact d2 rfl
      · subst n; rw [ha] at e; cases e; exact d1 rfl
    have nsOf : ∀ {b : Addr} {m : Str → Option Value}, s₁.heap.Ns b m → (hidT s₁.heap (hpT ts a o)).Ns b m := fun {b m} ⟨ob, es, ep, e, d, z⟩ => ⟨ob, es, ep, hidT_get e (free e (fun y => by rw [d] at y; cases y) fun y => by rw [d] at y; cases y), d, z⟩
    have kb : K.In (hidT s₁.heap (hpT ts a o)) := fun b ob e => hidT_get (kx b ob e) (by
      cases q : hpT ts a o b with
      | none => rfl
      | some u =>
        rcases cases_ b u q with ⟨h, _⟩ | ⟨h, e2, _⟩
        · rw [kT b h] at e; cases e
        · subst h; rw [apart (by rw [e2]; exact nofun)] at e; cases e)
    have md : Mod K mg (hidT s₁.heap (hpT ts a o)) := ⟨kb, nsOf hns, ⟨mb, nsOf hb, hbb⟩, let ⟨mc, h1, h2⟩ := nl; ⟨mc, nsOf h1, h2⟩⟩
    have e0 : Env0 P w K mg (hidT s₁.heap (hpT ts a o)) callerA [] s₁ (hpT ts a o) :=
      { frames := rfl, mod := md, bs := fun b o e => of_hidT e, bsz := Nat.le_of_eq (hidT_size _ _), funs := trivial, frf := fun b z => absurd (show b ∈ ([] : List Addr) from z) (by simp), hok := ok, bare := .of_eq hg }
    have TB : ∀ p ∈ cs, LamX.TabB (hidT s₁.heap (hpT ts a o)) mg p.1 p.2 := fun p hp => by
      refine ⟨?_, ?_, fun z => ?_⟩
      · obtain ⟨oc, us, file, tf, flags, tg, inF, text, tt, e1, r1, r2, rest⟩ := hC p hp
        refine ⟨oc, us, file, tf, flags, tg, inF, text, tt, hidT_get e1 (free e1 (fun z => by rw [r2] at z; cases z) fun z => ?_), r1, r2, rest⟩
        rw [r2] at z
        cases z
        simp at rest
      · obtain ⟨bm, ob, b1, b2, b3, b4, b5, b6⟩ := hbm
        refine ⟨bm, ob, b1, b2, fun q => ?_, fun q => ?_, hidT_get b3 (free b3 (fun z => by rw [b6] at z; cases z) fun z => by rw [b6] at z; cases z), b4, b5, b6⟩
        · obtain ⟨_, _, _, e, d, _⟩ := hns
          rw [q, e] at b3
          cases b3
          rw [d] at b6
          cases b6
        · rw [q, hT p hp] at b3
          cases b3
          cases b6
      · obtain ⟨_, _, _, e, d, _⟩ := hns
        rw [z, hT p hp] at e
        cases e
        cases d
    refine codeAny_mono ((F _ kb (nsOf hns) TB).go callerA [] s₁ _ [.ref a] [.ref a] ⟨[.ref a], []⟩ _ _ (by first | exact rfl | exact trivial) hr e0 (hbind s₁ (.ref a)) (.cons rfl .nil) (hsp _ (fun p hp => tb _ (inT p hp)) sq)) fun r s' h => ?_
    match r, h with
    | .error e, h =>
      obtain ⟨_, _, _, _, _, _, _, _, _, _, _, _, z⟩ := h
      exact z.elim
    | .ok .next, h => exact h.elim
    | .ok .brk, h => exact h.elim
    | .ok .cont, h => exact h.elim
    | .ok (.ret u), ⟨v, H', os, bare, un, ok', rr, z⟩ =>
      have z : v = .bl true := z
      subst z
      obtain rfl : u = Value.bool true := rr
      have keep : ∀ b ob, b ∉ ts → s₁.heap.get? b = some ob → s'.heap.get? b = some ob := fun b ob n e => by
        cases q : hpT ts a o b with
        | none => exact un.keep b ob e q (fun y => nomatch (show b ∈ ([] : List Addr) from y)) (by simp)
        | some u =>
          rcases cases_ b u q with ⟨h, _⟩ | ⟨_, _, rfl⟩
          · exact absurd h n
          · obtain ⟨e1, _⟩ := ok b _ q
            obtain ⟨e2, _⟩ := ok' b _ (un.frzs b _ _ q)
            rw [e] at e1
            cases e1
            exact e2
      have more : ∀ b ∈ ts, ∃ xs : Array Value, s'.heap.get? b = some { cls := .none, data := .fields xs } := fun b h => by
        obtain ⟨xs, z⟩ := un.tbls b #[] (tb b h)
        exact ⟨_, ok' b _ z⟩
      refine ⟨rfl, ⟨fun b ob e => ?_, fun b ob e => ?_⟩, os, bare⟩
      · by_cases h : b ∈ ts
        · obtain ⟨p, hp, ep⟩ := List.mem_map.mp h
          have ep : p.2 = b := ep
          obtain ⟨xs, hx⟩ := more b h
          rw [atT b h] at e
          cases e
          subst ep
          exact .inr (.inl ⟨((hC p hp).tab (hT p hp)).isCodeTable, rfl, #[], xs, rfl, by rw [Array.empty_append]; exact hx⟩)
        · exact .inl (keep b ob h e)
      · by_cases h : b ∈ ts
        · obtain ⟨xs, hx⟩ := more b h
          exact ⟨_, hx⟩
        · exact ⟨ob, keep b ob h e⟩
  have sc : ∀ o, hpT ts a o a = o := fun o => (if_neg na).trans (if_pos rfl)
  cases hk : K.lookup a with
  | some o =>
    have e := kx a o hk
    rw [ha] at e
    cases e
    exact main none (.inl rfl) (.inr ⟨_, vs.toArray, _, hk, rfl, rfl, rfl, by rw [List.size_toArray, lv]; exact hl, by simpa using rv⟩) fun z => absurd rfl z
  | none => exact main (some oa) (.inr rfl) (.inl (.inr ⟨{ cls := .type "list", data := .seq vs.toArray }, sc _⟩)) fun _ => hk
theorem walkGA {l : PySem.W.OpenLaw} {n k : Nat} {q : Program} {loose : List Str} {XP : (Str → Option Value) → Heap → Prop} {YP : World → Heap → Prop} {d : DefRec} {K : Params → PySem.W.Frag} {mf : List Ar → M D} {x : Str} {ys : List Str} (hrec : ∀ y ∈ ys, ((recsOf q).find? fun e => e.name == y).isSome = true)
    (hn : l.most = some n) (hn2 : n ≤ sizeLine) (hdf : d.params.defaults = []) (hr : Room k callerA) (hY : ∀ (w : World) (h : Heap), YP w h → (K w.params).In h)
    (F : ∀ (w : World) (mg : Str → Option Value) (fa : Addr) (h : Heap), (K w.params).In h → h.Ns mainGlobals mg → mg d.name = some (.ref fa) →
      ∃ (fd : FuncData) (cs : List (Addr × Addr)) (T : List (Addr × Str)), (∀ p ∈ cs, ∃ y ∈ ys, PySem.W.tabIn (K w.params) y = some p) ∧ (∀ p ∈ cs, (K w.params).lookup p.2 = none) ∧ (∀ t ∈ T, ∃ p ∈ cs, p.2 = t.1) ∧
        (∀ (s : Shared) (u : Value), BindsTo s fd ⟨[u], []⟩ [(x, u)]) ∧ ∀ base : Heap, (K w.params).In base → base.Ns mainGlobals mg → (∀ p ∈ cs, LamX.TabB base mg p.1 p.2) → FnG l.prog w (K w.params) mg base k fa fd [x] (spD ⟨mg, K w.params, T⟩ mf))
    (hm : ∀ (ns : List Int), ns.length ≤ n → (∀ z ∈ ns, Builtin.Int.intBits z ≤ 1048576) → mf [.v (.scr ns)] none = .ok (.bl true) none) :
    PySem.W.WalkO q loose XP YP l.row.toRowW d [] (fun f vs => PySem.call f vs) := by
  refine Att.attach_callB hn hdf fun w s₀ s₁ mg mb fa o pm cd doc a vs ns g y ho hd hcd hmg hobj hints hlen hbits hg => ?_
  have KX := hY w _ y
  obtain ⟨fd, cs, T, hcs, nT, hT, hb, hF⟩ := F w mg fa _ KX g.T.g hmg
  have tb : ∀ p ∈ cs, PySem.W.CodeHd s₁.heap p.1 p.2 ∧ s₁.heap.get? p.2 = some { cls := .none, data := .fields #[] } := fun p hp => by
    obtain ⟨y, hy, h2⟩ := hcs p hp
    obtain ⟨e, h1⟩ := Option.isSome_iff_exists.mp (hrec y hy)
    exact PySem.W.tab_of (c := p.1) (P := p.2) g.T KX h1 h2
  refine law_callT (sp := spD ⟨mg, K w.params, T⟩ mf) KX g.T.g g.T.b g.T.builtins g.T.nolimit hg (fun p hp => (tb p hp).2) nT (fun p hp => (tb p hp).1) g.T.bmain hobj hints (Nat.le_trans hlen hn2) hr hF hb fun H hH hS => ?_
  obtain ⟨G, p, s⟩ := post_tabs (mg := mg) hT hH hS
  exact ⟨none, G, none, [.v (.scr ns)], p, ⟨.scr s, trivial⟩, (out_eq (hm ns hlen hbits)).mpr fun v H' G' _ r => r.bl_of⟩
end DL
namespace DL
open PySem PySem.Spec PyProof.Rows L2
section
variable {c : Cn} {X : Cx}
instance {x : Str} {n : Int} : Decidable (MulOk x n) := by unfold MulOk; infer_instance
end
end DL
namespace DL
open PySem PySem.Spec PyProof.Rows L2
end DL
namespace DL
open PySem PySem.Spec PyProof.Rows L2
/-- a clause, by what it does -/
inductive CN where
  | txt (cv : Value) (m : Str)
  | rep (C : Addr) (i : Nat) (m f : Str)
  | nev (cv : Value) (o : Option Nat)
def CN.cl (K : PySem.W.Frag) : CN → Clau
  | .txt cv m => (cv, none, fun _ _ _ D _ H => D.rt (.str m) H)
  | .rep C i m f => (.ref C, some i, fun a cls d D σ H => cls = .ref C ∧ ∃ ad v, d = some ad ∧ σ[i]? = some (some (.ref a)) ∧ H ad = some (.xd [(f, v)]) ∧ rReprN K v H fun y H2 => rAddD K (.str m) y H2 fun w H3 => D.rt w H3)
  | .nev cv o => (cv, o, fun _ _ _ _ _ _ => False)
def chainN (K : PySem.W.Frag) (Q : VK) : List CN → Value → Option Addr → Hp → Prop
  | [], _, _, _ => False
  | .txt cv m :: r, cls, d, H => ∃ b, PySem.W.exmOne K cls cv = some b ∧ (b = true → Q (.str m) H) ∧ (b = false → chainN K Q r cls d H)
  | .rep C i m f :: r, cls, d, H => ∃ b, PySem.W.exmOne K cls (.ref C) = some b ∧ (b = true → cls = .ref C ∧ ∃ ad v, d = some ad ∧ H ad = some (.xd [(f, v)]) ∧ rReprN K v H fun y H2 => rAddD K (.str m) y H2 Q) ∧ (b = false → chainN K Q r cls d H)
  | .nev cv o :: r, cls, d, H => PySem.W.exmOne K cls cv = some false ∧ chainN K Q r cls d H
def repN (m f : Str) : Ex → M (Fl Unit) := fun e => match e.kept with
  | some (g, d) => if g = f then reprN d >>= fun x => addD (.str m) x >>= fun r => Pure.pure (.rt r) else M.no
  | none => M.no
/-- the clauses of a def that is given a lambda -/
inductive HdsN (c : Cn) (sg : Scope) (Ng : List Str) : List ExceptHandler → List CN → List (Hd Unit) → Prop
  | nil : HdsN c sg Ng [] [] []
  | txt {x m : Str} {cv : Value} {is : Str → Option Bool} {j : Nat} {np q1 q2 q3 : Pos} {hds : List ExceptHandler} {l : List CN} {r : List (Hd Unit)} (hge : sg.names.lookup x = some .globalImplicit) (hme : c.mg x = some cv) (hde : (x == ("__debug__" : Str)) = false) (ok : HdOk c is cv) (t : HdsN c sg Ng hds l r) :
      HdsN c sg Ng (.ExceptHandler (some (.Name x np)) none [.Return (some (.Constant (.str m) j q1)) q2] q3 :: hds) (.txt cv m :: l) ((is, fun _ => Pure.pure (.rt (.str m))) :: r)
  | rep {x n m f : Str} {i j : Nat} {C fI : Addr} {B newId initId : String} {bmB : List Value} {is : Str → Option Bool} {np p1 p2 p3 p4 p5 p6 p7 q3 : Pos} {hds : List ExceptHandler} {l : List CN} {r : List (Hd Unit)} (hge : sg.names.lookup x = some .globalImplicit) (T : PySem.KepX.KTxt c.K c.mg x f B newId initId bmB C fI) (hde : (x == ("__debug__" : Str)) = false) (ok : HdOk c is (.ref C)) (only : ∀ y, is y = some true → y = x)
      (hi : Ng[i]? = some n) (hn : sg.names.lookup n = some .local) (hv : Vis sg n) (hr : sg.names.lookup ("repr" : Str) = some .globalImplicit) (mr : c.mg "repr" = none) (hnd : (n == ("__debug__" : Str)) = false) (hnc : (n == ("__classdict__" : Str)) = false) (t : HdsN c sg Ng hds l r) :
      HdsN c sg Ng (.ExceptHandler (some (.Name x np)) (some n) [.Return (some (.BinOp (.Constant (.str m) j p1) .Add (.Call (.Name "repr" p2) [.Attribute (.Name n p3) f p4] [] p5) p6)) p7] q3 :: hds) (.rep C i m f :: l) ((is, repN m f) :: r)
  | nev {x n : Str} {i : Nat} {cv : Value} {is : Str → Option Bool} {h : Ex → M (Fl Unit)} {st : Stmt} {np q3 : Pos} {hds : List ExceptHandler} {l : List CN} {r : List (Hd Unit)} (hge : sg.names.lookup x = some .globalImplicit) (hme : c.mg x = some cv) (hde : (x == ("__debug__" : Str)) = false) (ok : HdOk c is cv) (no : ∀ y, is y ≠ some true)
      (hi : Ng[i]? = some n) (hn : sg.names.lookup n = some .local) (t : HdsN c sg Ng hds l r) :
      HdsN c sg Ng (.ExceptHandler (some (.Name x np)) (some n) [st] q3 :: hds) (.nev cv (some i) :: l) ((is, h) :: r)
section
variable {c : Cn} {X : Cx}
theorem HdsN.hds {sg : Scope} {Ng : List Str} {hds : List ExceptHandler} {l : List CN} {r : List (Hd Unit)} (h : HdsN c sg Ng hds l r) (hK : X.K = c.K) (hm : X.mg = c.mg) (hN : X.N = Ng) (hs : X.env.scope = sg) (gd : X.A.guards = some []) (un : X.A.units + 102 < cLine) (hgl : ∀ y, sg.names.lookup y = some .globalImplicit → Gl X y)
    (hpv : ∀ (a : Addr) (pn : List (Addr × Obj)) (i : Nat) (n : Str) (p : Pos), Ng[i]? = some n → Vis sg n → (n == ("__debug__" : Str)) = false → (n == ("__classdict__" : Str)) = false → PE (X.suite a pn) (.Name n p) (tVar i)) : HdsM X hds (l.map (CN.cl X.K)) := by
  induction h with
  | nil => exact .nil
  | txt hge hme hde ok t ih => exact .cons ⟨hgl _ hge, hde, .inl (by rw [hm]; exact hme)⟩ (fun a oe cls d pn _ _ => pss_one (ps_ret pe_str)) ih
  | @rep x n m f i j C fI B newId initId bmB is np p1 p2 p3 p4 p5 p6 p7 q3 hds l r hge T hde ok only hi hn hv hr mr hnd hnc t ih =>
    refine .named ⟨hgl _ hge, hde, .inl (by rw [hm]; exact T.gC)⟩ (by rw [hN]; exact hi) (by show X.env.scope.names.lookup n = _; rw [hs]; exact hn) (fun a oe cls d pn hz hf => ?_) ih
    have xf : XfC X.K C := by rw [hK]; exact ktxt_xf T
    have no : PySem.W.findIn X.K (.ref C) f = some none := by rw [hK]; exact T.noN
    have fld := pe_xf (X := X) (pn := pn) (pos := p4) xf no hz hf (hpv a _ i n p3 hi hv hnd hnc)
    have call := pe_callB (X := X.suite a ((a, oe) :: pn)) (p := p2) (pos := p5) (cr_reprN (X := X.suite a ((a, oe) :: pn)) gd un) (hgl _ hr) (show X.mg "repr" = none by rw [hm]; exact mr) (by decide +kernel) (pa_cons fld pa_nil) (by decide) (by decide)
    refine pss_by (pss_one (ps_ret (pos := p7) (pe_op (pos := p6) opr_add (pe_str (x := m) (j := j) (pos := p1)) call))) fun D σ H ⟨ec, ad, v, ed, si, ha, q⟩ => ?_
    subst ec ed
    show ∃ u, σ[i]? = some (some u) ∧ _
    refine ⟨.ref a, si, rfl, rfl, ad, [(f, v)], v, rfl, ha, by simp [List.lookup], ?_⟩
    exact ⟨v, rfl, q⟩
  | nev hge hme hde ok no hi hn t ih => exact .named ⟨hgl _ hge, hde, .inl (by rw [hm]; exact hme)⟩ (by rw [hN]; exact hi) (by show X.env.scope.names.lookup _ = _; rw [hs]; exact hn) (fun a oe cls d pn _ _ => ⟨fun pins s σ H D I h => h.elim⟩) ih
theorem HdsN.want {sg : Scope} {Ng : List Str} {hds : List ExceptHandler} {l : List CN} {r : List (Hd Unit)} (h : HdsN c sg Ng hds l r) {F : Fr} {ρ : List Sl} {e : Ex} {cl : Value} {dd : Option Addr} {σ : L2.St} {H G : Hp} {P : Pot} {Q : VK} {EX : Ex → Pot → Prop} (R : Rel c F ρ P σ H G) (x : ExOk c H G e cl dd)
    (q : out (pick r e) P (fun f P' => out (doneF (α := Unit) f) P' (fun d P2 => ∀ v H' G', Ext G G' → Rel c F ρ P2 σ H' G' → c.rep G' v d → Q v H') EX) (fun _ _ => False)) : chainN c.K Q l cl dd H := by
  induction h with
  | nil => exact q.elim
  | @txt y m cv is j np q1 q2 q3 hds l r hge hme hde ok t ih =>
    unfold pick at q
    cases hi : is e.c with
    | none => simp only [hi] at q; exact q.elim
    | some b =>
      have hb : PySem.W.exmOne c.K cl cv = some b := ok.ok _ _ hi _ x.1
      refine ⟨b, hb, fun z => ?_, fun z => ?_⟩
      · subst z
        simp only [hi] at q
        have q := out_noEx q
        exact (show ∀ v H' G', Ext G G' → Rel c F ρ P σ H' G' → c.rep G' v (.str m) → Q v H' from q) (.str m) H G (Ext.refl _) R (.str m)
      · subst z
        simp only [hi] at q
        exact ih q
  | @rep y n m f i j C fI B newId initId bmB is np p1 p2 p3 p4 p5 p6 p7 q3 hds l r hge T hde ok only hi hn hv hr mr hnd hnc t ih =>
    unfold pick at q
    cases hi2 : is e.c with
    | none => simp only [hi2] at q; exact q.elim
    | some b =>
      have hb : PySem.W.exmOne c.K cl (.ref C) = some b := ok.ok _ _ hi2 _ x.1
      refine ⟨b, hb, fun z => ?_, fun z => ?_⟩
      · subst z
        simp only [hi2] at q
        have q := out_noEx q
        have ey := only _ hi2
        obtain ⟨x1, x2⟩ := x
        rw [ey, T.gC] at x1
        have ecl : cl = .ref C := (Option.some.inj x1).symm
        unfold repN at q
        obtain ⟨ec, kept⟩ := e
        cases kept with
        | none => exact q.elim
        | some gd =>
          obtain ⟨g, d⟩ := gd
          obtain ⟨ad, v, e1, e2, rv⟩ := x2
          dsimp only at q
          by_cases z : g = f
          · subst z
            rw [if_pos rfl] at q
            refine ⟨ecl, ad, v, e1, e2, ?_⟩
            have rn := cd_reprN (c := c) F ρ (fun _ _ _ _ => False) P σ H G [v] [d] (fun y H2 => rAddD c.K (.str m) y H2 Q) R (Reps.cons rv Reps.nil) (out_mono (out_bind.mp q) (fun x P1 q1 u H1 G1 e1 R1 r1 => ?_) fun _ _ z => z.elim)
            · obtain ⟨v2, ev, rn⟩ := rn
              cases ev
              exact rn
            refine opd_add (c := c) F ρ (fun _ _ _ _ => False) P1 σ H1 G1 (.str m) u (.str m) x Q R1 (.str m) r1 (out_mono (out_bind.mp q1) (fun r P2 q2 u2 H2 G2 e2 R2 r2 => ?_) fun _ _ z => z.elim)
            exact (show ∀ v H' G', Ext G G' → Rel c F ρ P2 σ H' G' → c.rep G' v r → Q v H' from q2) u2 H2 G2 (e1.trans e2) R2 r2
          · rw [if_neg z] at q
            exact q.elim
      · subst z
        simp only [hi2] at q
        exact ih q
  | @nev y n i cv is h st np q3 hds l r hge hme hde ok no hi hn t ih =>
    unfold pick at q
    cases hi2 : is e.c with
    | none => simp only [hi2] at q; exact q.elim
    | some b =>
      cases b with
      | true => exact absurd hi2 (no _)
      | false =>
        simp only [hi2] at q
        exact ⟨ok.ok _ _ hi2 _ x.1, ih q⟩
end
end DL
namespace DL
open PySem PySem.Spec PyProof.Rows L2
end DL
namespace PySem.W
open PySem PySem.Calls PyProof.Rows
end PySem.W
namespace DL
open PySem PySem.Spec PyProof.Rows L2
end DL
namespace DL
open PySem PySem.Spec PyProof.Rows L2
end DL
namespace PySem
namespace HandSPX
end HandSPX
end PySem
namespace L2
open PySem PySem.Spec PyProof.Rows
end L2
namespace L2
open PySem PySem.Spec PyProof.Rows
end L2
namespace DL
open PySem PySem.Spec PyProof.Rows L2
end DL
namespace DL
open PySem PySem.Spec PyProof.Rows L2
end DL
namespace DL
open PySem PySem.Spec PyProof.Rows L2 GenW
/-- its call's generator: it sleeps at its beginning; whoever wakes it, where nothing of repr is under way, gets an exception -/
def Unb (P : Program) (w : World) (k : Nat) (fr : List Env) (H : Hp) (s : Shared) (E : XK) (u : Value) (z : Shared) : Prop :=
  ∃ (a : Addr) (g : Nat) (code : Code), u = .ref a ∧ a < z.heap.objs.size ∧ z.heap.IsGen a g ∧ z.gens[g]? = some (.fresh code) ∧ z.os = s.os ∧ AllBare z.gens ∧ z.heap.NoLimit ∧
    ∀ (A : Around) (Y : Protocol) (R : GenEnd) (n : Nat) (t : Shared), GA A → Room k A → A.frames = some fr → (∀ b o, z.heap.get? b = some o → t.heap.get? b = some o) → t.os = s.os → AllBare t.gens →
      (∀ m t0 e y, L2.CX P w fr H s E e y → y.heap.IsGen a g → R m t0 (.error e) y) → Seg (model P w) A R Y n t code ((model P w).den code) [] t
structure FnZ (P : Program) (w : World) (K : PySem.W.Frag) (mg : Str → Option Value) (base : Heap) (k : Nat) (f : Addr) (fd : FuncData) (ps : List Str) (sp : Sp) : Prop where
  ln : ∀ vs H Q E, sp vs H Q E → vs.length = ps.length
  go : ∀ (A : Around) (fr : List Env) (s : Shared) (H : Hp) (us : List Value) (vs : List V) (args : Args) (E : XK), Room k A → Env0 P w K mg base A fr s H → BindsTo s fd args (ps.zip us) → Vals vs us → sp vs H (fun _ _ => False) E →
    codeAny (model P w) A (.call (.ref f) args) (fun r z => ∃ u, r = .ok (.ret u) ∧ Unb P w k fr H s E u z) s
end DL
namespace DL
open PySem PySem.Spec PyProof.Rows L2 GenW
section
variable {P : Program} {w : World} {K : PySem.W.Frag} {mg : Str → Option Value} {base : Heap} {c : Cn}
theorem FnZ.mono {j k : Nat} {f : Addr} {fd : FuncData} {ps : List Str} {sp : Sp} (h : FnZ P w K mg base j f fd ps sp) (l : j ≤ k) : FnZ P w K mg base k f fd ps sp := by
  refine ⟨h.ln, fun A fr s H us vs args E r e0 hb rv hs => codeAny_mono (h.go A fr s H us vs args E (r.mono l) e0 hb rv hs) fun r z ⟨u, e, a, g, code, h1, h2, h3, h4, h5, h6, h7, wake⟩ => ⟨u, e, a, g, code, h1, h2, h3, h4, h5, h6, h7, fun B Y R n t ga rm => wake B Y R n t ga (rm.mono l)⟩⟩
end
end DL
namespace DL
open PySem PySem.Spec PyProof.Rows L2 GenW
end DL
namespace DL
open PySem PySem.Spec PyProof.Rows L2
end DL
namespace L2
open PySem PySem.Spec PyProof.Rows
end L2
namespace L2
open PySem PySem.Spec PyProof.Rows
end L2
namespace DL
open PySem PySem.Spec PyProof.Rows L2
end DL
namespace DL
open PySem PySem.Spec PyProof.Rows L2 GenW
end DL
namespace DL
open PySem PySem.Spec PyProof.Rows L2 GenW
end DL
namespace DL
open PySem PySem.Spec PyProof.Rows L2
end DL
namespace DL
open PySem PySem.Spec PyProof.Rows L2 GenW
end DL
namespace DL
open PySem PySem.Spec PyProof.Rows L2
def prsOf : List D → Option (List (Key × D))
  | [] => some []
  | .tup [k, v] :: r => match keyV k, prsOf r with
    | some a, some ds => some ((a, v) :: ds)
    | _, _ => none
  | _ => none
def dictL (d : D) : M D := match d with
  | .lst l => match prsOf l with
    | some ds => if (ds.map (·.1)).Nodup then Pure.pure (.dic (ds.map fun p => (keyD p.1, p.2))) else M.no
    | none => M.no
  | _ => M.no
section
variable {c : Cn} {X : Cx} {F : Fr} {W : WX} {ρ : List Sl}
theorem prs_at {G H : Hp} (hK : X.K = c.K) (le : ∀ a u, G a = some u → H a = some u) : ∀ {l : List D} {ds : List (Key × D)} {vs : List V}, c.reps G vs l → prsOf l = some ds →
    ∃ (as : List Addr) (kvs : List (Key × V)), vs = as.map V.ref ∧ Paired (fun p kv => SqT X.K H p [kV kv.1, kv.2]) as kvs ∧ kvs.map (·.1) = ds.map (·.1) ∧ c.reps G (kvs.map (·.2)) (ds.map (·.2))
  | [], ds, vs, r, h => by
    cases h
    have e : vs = [] := List.eq_nil_of_length_eq_zero r.1
    subst e
    exact ⟨[], [], rfl, .nil, rfl, Reps.nil⟩
  | d :: l, ds, vs, r, h => by
    obtain ⟨v, vs', rfl⟩ : ∃ v vs', vs = v :: vs' := by
      cases vs with
      | nil => have := r.1; cases this
      | cons v vs' => exact ⟨v, vs', rfl⟩
    unfold prsOf at h
    split at h
    · rename_i heq; cases heq
    · rename_i k x rr heq
      cases heq
      cases hk : keyV k with
      | none => rw [hk] at h; cases h
      | some a =>
        cases hr : prsOf l with
        | none => rw [hk, hr] at h; cases h
        | some ds' =>
          rw [hk, hr] at h
          cases h
          obtain ⟨as, kvs, e1, e2, e3, e4⟩ := prs_at hK le r.tail hr
          have rh := r.head
          cases rh with
          | @tup b us _ hs hl hv =>
            match us, hl, hv, hs with
            | [u1, u2], hl, hv, hs =>
              have k1 : u1 = kV a := keyV_rep hk (hv 0 u1 k rfl rfl)
              subst k1 e1
              refine ⟨b :: as, (a, u2) :: kvs, rfl, .cons ?_ e2, by simp [e3], ?_⟩
              · rw [hK]
                rcases hs with hs | hs
                · refine .inl ?_
                  rcases hs with hs | ⟨o, hs⟩
                  · exact .inl (le _ _ hs)
                  · exact .inr ⟨o, le _ _ hs⟩
                · exact .inr hs
              · exact Reps.cons (hv 1 u2 x rfl rfl) e4
    · cases h
theorem de_dictL {x : Str} {e : Expr} {p pos : Pos} {m : M D} (hK : X.K = c.K) (hc : X.calm = true) (hg : Gl X x) (hm : X.mg x = none) (hv : bootBuiltins x = some (.type "dict")) (he : PE X e (rdE c F W ρ m))
    (hn : x ≠ "__name__" := by decide) (hdb : (x == ("__debug__" : Str)) = false := by decide)
    (h1 : starEach [e] X.env = [(false, eval e X.env)] := by rfl) : PE X (.Call (.Name x p) [e] [] pos) (rdE c F W ρ (m >>= dictL)) := by
  refine pe_by (pe_callTy (call_dictP hc) hg hm hv (pa_cons he pa_nil h1) hn hdb h1 rfl) fun σ H Q ⟨P, G, R, q⟩ => ?_
  refine ⟨P, G, R, out_mono (out_bind.mp q) (fun d P1 q1 v H1 G1 e1 R1 r1 => ?_) fun _ _ w => w⟩
  cases d with
  | lst l =>
    unfold dictL at q1
    dsimp only at q1
    cases hp : prsOf l with
    | none => rw [hp] at q1; exact q1.elim
    | some ds =>
      rw [hp] at q1
      dsimp only at q1
      by_cases hd : (ds.map (·.1)).Nodup
      · rw [if_pos hd] at q1
        have q3 : ∀ v H' G', Ext G G' → Rel c F ρ P1 σ H' G' → c.rep G' v (.dic (ds.map fun p => (keyD p.1, p.2))) → Q v H' := q1
        cases r1 with
        | @lst a vs _ ga hl hr =>
          obtain ⟨as, kvs, ev, hp2, hk, hrep⟩ := prs_at (X := X) hK R1.post.le (⟨hl, hr⟩ : c.reps G1 vs l) hp
          subst ev
          refine ⟨a, as, kvs, rfl, .inl (.of (R1.post.le _ _ ga)), hp2, fun pd hpd => ?_⟩
          have nd : (kvs.map (·.1)).Nodup := by rw [hk]; exact hd
          rw [mergeK_nodup kvs [] (by rw [List.map_nil, List.nil_append]; exact nd), List.nil_append]
          obtain ⟨B2, e3⟩ := R1.new hpd (nt_dK (xs := kvs))
          refine q3 (.ref pd) _ _ (e1.trans e3) B2 (.dicK upd_same ?_ fun i kv dv z1 z2 => ?_)
          · rw [List.map_map]
            have : (List.map (fun p => keyD p.1) kvs) = (kvs.map (·.1)).map keyD := by rw [List.map_map]; rfl
            rw [this, hk, List.map_map]
            rfl
          · rw [List.getElem?_map, Option.map_eq_some_iff] at z2
            obtain ⟨pq, z2, rfl⟩ := z2
            exact (hrep.2 i kv.2 pq.2 (by rw [List.getElem?_map, z1]; rfl) (by rw [List.getElem?_map, z2]; rfl)).mono e3
      · rw [if_neg hd] at q1; exact q1.elim
  | _ => exact q1.elim
/-- d.get(k, x) -/
def dgetD (x y z : D) : M D := match x with
  | .dic kvs => match keyV y, kvs.all (fun p => (keyV p.1).isSome) && !kvs.isEmpty with
    | some k, true => Pure.pure ((getD kvs k).getD z)
    | _, _ => M.no
  | _ => M.no
theorem getD_none {k : Key} : ∀ {kvs : List (Key × V)} {ds : List (D × D)}, kvs.map (fun p => keyD p.1) = ds.map (·.1) → getD ds k = none → valV kvs k = none
  | [], [], _, _ => rfl
  | [], _ :: _, h, _ => by simp at h
  | _ :: _, [], h, _ => by simp at h
  | p :: kvs, q :: ds, h1, h => by
    simp only [List.map_cons, List.cons.injEq] at h1
    unfold getD at h
    unfold valV
    rw [List.find?_cons] at h ⊢
    rw [← h1.1, keyIs_keyD] at h
    by_cases z : p.1 = k
    · rw [decide_eq_true z] at h
      cases h
    · rw [decide_eq_false z] at h ⊢
      exact getD_none (kvs := kvs) (ds := ds) h1.2 h
def dicG : D → Bool
  | .dic kvs => kvs.all (fun p => (keyV p.1).isSome) && !kvs.isEmpty
  | _ => false
theorem de_dgetX {o e f : Expr} {apos cpos : Pos} {mo me mf : M D} (hu : X.A.units + 1 < cLine) (ho : PE X o (rdE c F W ρ mo)) (he : PE X e (rdE c F W ρ me)) (hf : PE X f (rdE c F W ρ mf)) (m : M2 X o "get" apos e f cpos) :
    PE X (.Call (.Attribute o "get" apos) [e, f] [] cpos) (rdE c F W ρ (mo >>= fun x => if dicG x = true then me >>= fun y => mf >>= fun z => dgetD x y z else M.no)) := by
  refine pe_by (pe_dget2 hu ho he hf m) fun σ H Q ⟨P, G, R, q⟩ => ?_
  refine ⟨P, G, R, ?_⟩
  have q' := out_bind.mp q
  cases e1 : mo P with
  | no => unfold out at q'; rw [e1] at q'; exact q'.elim
  | ex x p => unfold out at q' ⊢; rw [e1] at q' ⊢; exact q'
  | ok d p =>
    unfold out at q' ⊢
    rw [e1] at q' ⊢
    obtain ⟨kvs, rfl, hal⟩ : ∃ kvs, d = .dic kvs ∧ (kvs.all (fun p => (keyV p.1).isSome) && !kvs.isEmpty) = true := by
      cases d with
      | dic kvs =>
        refine ⟨kvs, rfl, ?_⟩
        cases z : (kvs.all (fun p => (keyV p.1).isSome) && !kvs.isEmpty) with
        | true => rfl
        | false =>
          have z2 : dicG (.dic kvs) = false := z
          have q2 : out (if dicG (.dic kvs) = true then me >>= fun y => mf >>= fun z => dgetD (.dic kvs) y z else M.no) p _ _ := q'
          rw [z2] at q2
          exact q2.elim
      | _ => exact (show False from q').elim
    have q' : out (if dicG (.dic kvs) = true then me >>= fun y => mf >>= fun z => dgetD (.dic kvs) y z else M.no) p _ _ := q'
    rw [if_pos (show dicG (.dic kvs) = true from hal)] at q'
    intro v H1 G1 ex1 R1 r1
    have ne : kvs ≠ [] := by
      intro z; subst z; simp at hal
    cases r1 with
    | @dicK a kvs' _ hG hkk hr =>
      refine ⟨a, rfl, .inl ⟨kvs', .of (R1.post.le _ _ hG)⟩, p, G1, R1, out_mono (out_bind.mp q') (fun y P2 q2 u H2 G2 e3 R2 r2 => ?_) fun _ _ z => exW_le ex1 z⟩
      refine ⟨P2, G2, R2, out_mono (out_bind.mp q2) (fun z P3 q3 uz H3 G3 e4 R3 r3 => ?_) fun _ _ z => exW_le (ex1.trans e3) z⟩
      unfold dgetD at q3
      dsimp only at q3
      rw [hal] at q3
      cases hk : keyV y with
      | none => rw [hk] at q3; exact q3.elim
      | some k =>
        rw [hk] at q3
        dsimp only at q3
        have eu := keyV_rep hk r2
        have q4 : ∀ v H' G', Ext G G' → Rel c F ρ P3 σ H' G' → c.rep G' v ((getD kvs k).getD z) → Q v H' := q3
        have gh : H3 a = some (.dK kvs') := R3.post.le _ _ (e4 _ _ (e3 _ _ hG))
        cases hg : getD kvs k with
        | none =>
          rw [hg] at q4
          have hvn := getD_none hkk hg
          exact ⟨none, .inl ⟨kvs', k, .of gh, eu, hvn.symm⟩, q4 _ H3 G3 ((ex1.trans e3).trans e4) R3 r3⟩
        | some d =>
          rw [hg] at q4
          obtain ⟨v', hv, rv⟩ := getD_rep (c := c) (G := G1) hkk ⟨by rw [List.length_map, List.length_map]; have := congrArg List.length hkk; simpa using this, fun i v d h1 h2 => by
            rw [List.getElem?_map, Option.map_eq_some_iff] at h1 h2
            obtain ⟨p, h1, rfl⟩ := h1
            obtain ⟨q, h2, rfl⟩ := h2
            exact hr i p q h1 h2⟩ hg
          exact ⟨some v', .inl ⟨kvs', k, .of gh, eu, hv.symm⟩, q4 _ H3 G3 ((ex1.trans e3).trans e4) R3 ((rv.mono e3).mono e4)⟩
    | @dicT a kvs' _ hG hkk hr =>
      exfalso
      cases kvs with
      | nil => exact ne rfl
      | cons p ps =>
        cases kvs' with
        | nil => simp at hkk
        | cons p' ps' =>
          simp only [List.map_cons, List.cons.injEq] at hkk
          simp only [List.all_cons, Bool.and_eq_true] at hal
          rw [← hkk.1] at hal
          have z : (keyV (D.tup (p'.1.map keyD))).isSome = true := hal.1.1
          cases z
end
end DL
namespace PySem.SeqAt
open AutoSeq1 (wpAny_loadPart')
open MeetsSeq
theorem dict_eq_declines_str (l : Addr) (es : Array DictEntry) (n : Nat) (dd : Option Addr) (sl : Array (Option Value)) (b : Str) (u : Tok) :
    Meets (Builtin.«dict.__eq__» ⟨[.ref l, .str b u], []⟩) (fun _ R s => s.heap.get? l = some { cls := .type "dict", dict := dd, data := .dict es n, slots := sl } ∧ R (.ok (.ret .notImplemented)) s) :=
  .of_wp fun prog w A R s h => by obtain ⟨hp, g, d, tk, os⟩ := s; obtain ⟨hl, h⟩ := h; have f1 := F.sub_str_dict; wp_walk using wpAny_loadPart' hl; exact ⟨_, rfl, h⟩
theorem str_eq_declines_dict (b : Str) (u : Tok) (l : Addr) (c : Value) (es : Array DictEntry) (n : Nat) (dd : Option Addr) (sl : Array (Option Value)) :
    Meets (Builtin.«str.__eq__» ⟨[.str b u, .ref l], []⟩) (fun _ R s => s.heap.get? l = some { cls := c, dict := dd, data := .dict es n, slots := sl } ∧ R (.ok (.ret .notImplemented)) s) :=
  .of_wp fun prog w A R s h => by obtain ⟨hp, g, d, tk, os⟩ := s; obtain ⟨hl, h⟩ := h; wp_walk using wpAny_loadPart' hl, wpAny_load hl; exact ⟨_, rfl, h⟩
theorem RcAt.dict_str {A : Around} {s : Shared} {l : Addr} {o : Obj} {es : Array DictEntry} {n : Nat} (b : Str) (u : Tok) (ho : s.heap.get? l = some o) (hc : o.cls = .type "dict") (hd : o.data = .dict es n) (hu : A.units < cLine) : RcAt A s (.ref l) (.str b u) false := fun prog w E Q h => by
  obtain ⟨cls, dd, data, sl⟩ := o
  simp only at hc hd
  subst hc hd
  exact rc_eq_decline_or (k := false) ⟨_, ho, rfl⟩ (typeIs_str s b u) (by decide) F.sub_str_dict F.slot_dict_eq F.slot_str_eq_refl
    (fun _ hq => call_meets F.slot_dict_eq ⟨_, ho, rfl⟩ F.entry_dict_eq (F.args_dict_eq_2 _ _) (dict_eq_declines_str l es n dd sl b u) ⟨ho, hq⟩)
    (fun _ hq => call_meets F.slot_str_eq_refl (typeIs_str s b u) F.entry_str_eq (F.args_str_eq_2 _ _) (str_eq_declines_dict b u l (.type "dict") es n dd sl) ⟨ho, hq⟩)
    (fun _ hq => wpAny_of_eq (rfl : isSame (.ref l) (.str b u) = pure false) hq) (.inr hu) h
end PySem.SeqAt
namespace DL
open PySem PySem.Spec PyProof.Rows L2
def rEqX (K : PySem.W.Frag) : R2 := fun x y H Q =>
  (∃ a z xs, x = .ref a ∧ y = .str z ∧ (SqL K H a xs ∨ SqT K H a xs) ∧ Q (.bl false) H) ∨
  (∃ a z, x = .ref a ∧ y = .str z ∧ IsD H a ∧ Q (.bl false) H) ∨
  (∃ a b xs, x = .ref a ∧ y = .ref b ∧ (SqL K H a xs ∧ SqL K H b [] ∨ SqT K H a xs ∧ SqT K H b []) ∧ Q (.bl xs.isEmpty) H)
section
variable {c : Cn} {X : Cx}
theorem op_eqX0 (hu : X.A.units + 64 < cLine) : OpR X (compareOp .Eq) (rEqX X.K) := by
  intro pins s σ H x y v u Q I rx ry h
  have hu' : X.A.units < cLine := by omega
  have fin : ∀ b : Bool, Q (.bl b) H → EP X pins σ Q (.bool b) s := fun b q => ⟨.bl b, H, I, rfl, q⟩
  rcases h with ⟨a, z, xs, rfl, rfl, hs, q⟩ | ⟨a, z, rfl, rfl, hd, q⟩ | ⟨a, b, xs, rfl, rfl, hs, q⟩
  · cases (show v = Value.ref a from rx)
    obtain ⟨t, rfl⟩ := (show ∃ t, u = Value.str z t from ry)
    rcases hs with hs | hs
    · obtain ⟨its, _, p, _⟩ := I.list hs
      exact SeqAt.RcAt.list_str z t p.isList hu' _ _ _ _ (fin _ q)
    · obtain ⟨its, _, p, _⟩ := I.tuple hs
      exact SeqAt.RcAt.tuple_str z t p hu' _ _ _ _ (fin _ q)
  · cases (show v = Value.ref a from rx)
    obtain ⟨t, rfl⟩ := (show ∃ t, u = Value.str z t from ry)
    rcases hd with ⟨kvs, e⟩ | ⟨kvs, e⟩
    · obtain ⟨_, _, vs, _, o, es, ep, ho, hx, hdat, _⟩ := dk_rd I.hok e
      exact SeqAt.RcAt.dict_str z t ho hx.1 hdat hu' _ _ _ _ (fin _ q)
    · obtain ⟨_, _, vs, _, o, es, ep, ho, hx, hdat, _⟩ := dt_rd I.hok e
      exact SeqAt.RcAt.dict_str z t ho hx.1 hdat hu' _ _ _ _ (fin _ q)
  · cases (show v = Value.ref a from rx)
    cases (show u = Value.ref b from ry)
    rcases hs with ⟨h1, h2⟩ | ⟨h1, h2⟩
    · obtain ⟨us, r1, p1, _⟩ := I.list h1
      obtain ⟨ws, r2, p2, _⟩ := I.list h2
      cases r2
      cases r1 with
      | nil => exact SeqAt.RcAt.lists (e := fun _ => true) p1.isList p2.isList rfl hu' (fun j h1 _ => absurd h1 (Nat.not_lt_zero j)) _ _ _ _ (fin _ q)
      | cons k t => exact SeqAt.RcAt.lists_lengths p1.isList p2.isList (by simp) hu' _ _ _ _ (fin _ q)
    · obtain ⟨us, r1, p1, _⟩ := I.tuple h1
      obtain ⟨ws, r2, p2, _⟩ := I.tuple h2
      cases r2
      refine SeqAt.RcAt.tuples (e := fun _ => true) p1 p2 hu' (fun j _ h2 => absurd h2 (Nat.not_lt_zero j)) _ _ _ _ (fin _ ?_)
      cases r1 with
      | nil => exact q
      | cons k t => simpa using q
theorem opr_eqX (hu : X.A.units + 64 < cLine) : OpR X (compareOp .Eq) (fun x y H Q => rEqX X.K x y H Q ∨ rEqD X.K x y H Q) := OpR.or (op_eqX0 hu) (op_eqD hu)
def eqX (x y : D) : M D := match y with
  | .str _ => (match x with
    | .tup _ => Pure.pure (.bl false)
    | .lst _ => Pure.pure (.bl false)
    | .dic _ => Pure.pure (.bl false)
    | _ => eqD x y)
  | .tup [] => (match x with
    | .tup xs => Pure.pure (.bl xs.isEmpty)
    | _ => eqD x y)
  | .lst [] => (match x with
    | .lst xs => Pure.pure (.bl xs.isEmpty)
    | _ => eqD x y)
  | _ => eqD x y
theorem emp_eq {α β : Type} {vs : List α} {ds : List β} (l : vs.length = ds.length) : vs.isEmpty = ds.isEmpty := by
  cases vs <;> cases ds <;> first | rfl | (simp at l)
theorem sqT_le {K : PySem.W.Frag} {G H : Hp} {a : Addr} {vs : List V} (le : ∀ a u, G a = some u → H a = some u) (h : SqT K G a vs) : SqT K H a vs := by
  rcases h with h | h
  · rcases h with h | ⟨o, h⟩
    · exact .inl (.inl (le _ _ h))
    · exact .inl (.inr ⟨o, le _ _ h⟩)
  · exact .inr h
theorem opd_eqX : OpD c (fun x y H Q => rEqX c.K x y H Q ∨ rEqD c.K x y H Q) eqX := by
  intro F ρ W P σ H G x y dx dy Q R rx ry q
  have le := R.post.le
  have old : out (eqD dx dy) P (fun d P' => ∀ v H' G', Ext G G' → Rel c F ρ P' σ H' G' → c.rep G' v d → Q v H') (exW c F W P G σ) → rEqX c.K x y H Q ∨ rEqD c.K x y H Q := fun z => .inr (opd_eq F ρ W P σ H G x y dx dy Q R rx ry z)
  have fin : ∀ b, (out (Pure.pure (D.bl b)) P (fun d P' => ∀ v H' G', Ext G G' → Rel c F ρ P' σ H' G' → c.rep G' v d → Q v H') (exW c F W P G σ)) → Q (.bl b) H := fun b z => (show ∀ v H' G', Ext G G' → Rel c F ρ P σ H' G' → c.rep G' v (.bl b) → Q v H' from z) _ H G (Ext.refl _) R (.bl _)
  unfold eqX at q
  cases dy with
  | str z =>
    obtain rfl := ry.str_of
    cases dx with
    | tup ds =>
      cases rx with
      | tup hs hl hr => exact .inl (.inl ⟨_, _, _, rfl, rfl, .inr (sqT_le le hs), fin _ q⟩)
    | lst ds =>
      cases rx with
      | lst hg hl hr => exact .inl (.inl ⟨_, _, _, rfl, rfl, .inl (.inl (.of (le _ _ hg))), fin _ q⟩)
    | dic ds =>
      cases rx with
      | dicK hg hk hr => exact .inl (.inr (.inl ⟨_, _, rfl, rfl, .inl ⟨_, .of (le _ _ hg)⟩, fin _ q⟩))
      | dicT hg hk hr => exact .inl (.inr (.inl ⟨_, _, rfl, rfl, .inr ⟨_, .of (le _ _ hg)⟩, fin _ q⟩))
    | _ => exact old q
  | tup es =>
    cases es with
    | nil =>
      cases dx with
      | tup ds =>
        cases rx with
        | tup hs hl hr =>
          cases ry with
          | tup hs2 hl2 hr2 =>
            have e := List.eq_nil_of_length_eq_zero hl2
            subst e
            have q2 := fin _ q
            rw [← emp_eq hl] at q2
            exact .inl (.inr (.inr ⟨_, _, _, rfl, rfl, .inr ⟨sqT_le le hs, sqT_le le hs2⟩, q2⟩))
      | _ => exact old q
    | cons _ _ => exact old q
  | lst es =>
    cases es with
    | nil =>
      cases dx with
      | lst ds =>
        cases rx with
        | lst hg hl hr =>
          cases ry with
          | lst hg2 hl2 hr2 =>
            have e := List.eq_nil_of_length_eq_zero hl2
            subst e
            have q2 := fin _ q
            rw [← emp_eq hl] at q2
            exact .inl (.inr (.inr ⟨_, _, _, rfl, rfl, .inl ⟨.inl (.of (le _ _ hg)), .inl (.of (le _ _ hg2))⟩, q2⟩))
      | _ => exact old q
    | cons _ _ => exact old q
  | _ => exact old q
end
end DL
namespace DL
open PySem PySem.Spec PyProof.Rows L2
instance : LawfulMonad M := LawfulMonad.mk' M (fun x => by funext P; show M.bind x M.pure P = x P; unfold M.bind M.pure; cases x P <;> rfl) (fun x f => rfl) (fun x f g => by
  funext P
  show M.bind (M.bind x f) g P = M.bind x (fun a => M.bind (f a) g) P
  unfold M.bind
  cases x P <;> rfl)
section
variable {α β γ : Type}
theorem pb (a : α) (k : α → M β) : (Pure.pure a >>= k) = k a := Eq.trans rfl rfl
theorem asc (m : M α) (f : α → M β) (g : β → M γ) : (m >>= f >>= g) = (m >>= fun x => f x >>= g) := bind_assoc m f g
theorem thB (m : M γ) (f : γ → M (Fl α)) (k : α → M (Fl β)) : thenR (m >>= f) k = (m >>= fun x => thenR (f x) k) := bind_assoc m f _
theorem thN (a : α) (k : α → M (Fl β)) : thenR (Pure.pure (.nx a)) k = k a := Eq.trans rfl rfl
theorem thR (d : D) (k : α → M (Fl β)) : thenR (Pure.pure (.rt d)) k = Pure.pure (.rt d) := Eq.trans rfl rfl
theorem thX (e : Ex) (k : α → M (Fl β)) : thenR (M.raise e) k = M.raise e := Eq.trans rfl rfl
theorem thT (m : M (Fl γ)) (f : γ → M (Fl α)) (k : α → M (Fl β)) : thenR (thenR m f) k = thenR m fun x => thenR (f x) k := by
  unfold thenR
  rw [bind_assoc]
  congr 1
  funext z
  cases z <;> rfl
theorem xb (e : Ex) (k : α → M β) : (M.raise e >>= k) = M.raise e := Eq.trans rfl rfl
theorem nb (k : α → M β) : (M.no >>= k) = M.no := Eq.trans rfl rfl
theorem thI {c : Prop} [Decidable c] (a b : M (Fl α)) (k : α → M (Fl β)) : thenR (if c then a else b) k = if c then thenR a k else thenR b k := by split <;> rfl
theorem dR (d : D) : doneF (α := α) (.rt d) = Pure.pure d := Eq.trans rfl rfl
theorem bB (b : Bool) : boolD (.bl b) = Pure.pure b := Eq.trans rfl rfl
theorem v0 : vals [] = Pure.pure [] := Eq.trans rfl rfl
theorem v1 (d : D) (as : List Ar) : vals (.v d :: as) = (vals as >>= fun ds => Pure.pure (d :: ds)) := Eq.trans rfl rfl
theorem f1e (f : D → M D) (d : D) : f1 f [d] = f d := Eq.trans rfl rfl
theorem f2e (f : D → D → M D) (d e : D) : f2 f [d, e] = f d e := Eq.trans rfl rfl
theorem ntn : (!true) = false := Eq.trans rfl rfl
theorem ntf : (!false) = true := Eq.trans rfl rfl
theorem ittr (a b : M α) : (if true = true then a else b) = a := if_pos rfl
theorem itfa (a b : M α) : (if false = true then a else b) = b := if_neg (fun h => nomatch h)
theorem itT (a b : M α) : (if True then a else b) = a := if_pos True.intro
theorem itF (a b : M α) : (if False then a else b) = b := if_neg id
theorem sB (a : α) : M.some (some a) = Pure.pure a := Eq.trans rfl rfl
theorem isi_is (T : String) {d : D} {n : String} (h : tyN d = some n) : isiD T d = Pure.pure (.bl (isB n T)) := by
  have go : isiM (fun n => some (isB n T)) (fun _ => none) d = Pure.pure (.bl (isB n T)) := by
    cases d <;> first | (cases h; done) | (unfold isiM; simp only [h]; exact Eq.trans rfl rfl)
  exact go
theorem noE (a : α) : noEx (Pure.pure a : M α) = Pure.pure a := by funext P; exact Eq.trans rfl rfl
theorem comp_pure {t : D → M Bool} {e : D → M D} (p : D → Bool) (f : D → D) : ∀ ds : List D, (∀ d ∈ ds, t d = Pure.pure (p d)) → (∀ d ∈ ds, p d = true → e d = Pure.pure (f d)) → compF t e ds = Pure.pure ((ds.filter p).map f)
  | [], _, _ => Eq.trans rfl rfl
  | d :: ds, ht, he => by
    have ih := comp_pure p f ds (fun x hx => ht x (List.mem_cons_of_mem _ hx)) fun x hx => he x (List.mem_cons_of_mem _ hx)
    unfold compF
    rw [ht d List.mem_cons_self, noE, pb]
    cases q : p d with
    | true =>
      rw [ittr, he d List.mem_cons_self q, noE, pb, ih, noE, pb, List.filter_cons_of_pos q, List.map_cons]
    | false =>
      rw [itfa, ih, List.filter_cons_of_neg (by rw [q]; exact Bool.false_ne_true)]
/-- without a test -/
theorem comp_all {e : D → M D} (f : D → D) (ds : List D) (he : ∀ d ∈ ds, e d = Pure.pure (f d)) : compF (fun _ => Pure.pure true) e ds = Pure.pure (ds.map f) := by
  have h := comp_pure (t := fun _ => Pure.pure true) (fun _ => true) f ds (fun _ _ => rfl) fun d hd _ => he d hd
  rwa [List.filter_eq_self.mpr fun _ _ => rfl] at h
theorem mkLe {ds : List D} (h : ds.length ≤ sizeLine) : mkL ds = Pure.pure (.lst ds) := if_pos h
theorem mkTe {ds : List D} (h : ds.length ≤ sizeLine) : mkT ds = Pure.pure (.tup ds) := if_pos h
def wp (m : M α) (P : Pot) (Q : α → Pot → Prop) : Prop := ∃ a P', m P = .ok a P' ∧ Q a P'
theorem wp_pure {a : α} {P : Pot} {Q : α → Pot → Prop} (h : Q a P) : wp (Pure.pure a : M α) P Q := ⟨a, P, rfl, h⟩
theorem wp_bind {m : M α} {k : α → M β} {P : Pot} {Q : β → Pot → Prop} (h : wp m P fun a P' => wp (k a) P' Q) : wp (m >>= k) P Q := by
  obtain ⟨a, P', e, b, P2, e2, q⟩ := h
  exact ⟨b, P2, (bind_ok e).trans e2, q⟩
theorem wp_mono {m : M α} {P : Pot} {Q Q' : α → Pot → Prop} (h : wp m P Q) (k : ∀ a p, Q a p → Q' a p) : wp m P Q' := by
  obtain ⟨a, P', e, q⟩ := h
  exact ⟨a, P', e, k _ _ q⟩
theorem wp_then {m : M (Fl α)} {k : α → M (Fl β)} {P : Pot} {Q : Fl β → Pot → Prop} (h : wp m P fun f P' => ∃ a, f = .nx a ∧ wp (k a) P' Q) : wp (thenR m k) P Q := by
  refine wp_bind (wp_mono h fun f p ⟨a, e, q⟩ => ?_)
  subst e
  exact q
theorem wp_noEx {m : M α} {P : Pot} {Q : α → Pot → Prop} (h : wp m P Q) : wp (noEx m) P Q := by
  obtain ⟨a, P', e, q⟩ := h
  exact ⟨a, P', noEx_ok e, q⟩
theorem wp_for {b : α → D → M (Fl α)} (I : Nat → α → Pot → Prop) (N : Nat) : ∀ (ds : List D) (i : Nat) (a : α) (P : Pot), i + ds.length ≤ N → I i a P → (∀ i a P, i < N → ∀ d ∈ ds, I i a P → wp (b a d) P fun f P' => ∃ a', f = .nx a' ∧ I (i + 1) a' P') →
    wp (forF b ds a) P fun f P' => ∃ a', f = .nx a' ∧ I (i + ds.length) a' P'
  | [], i, a, P, _, h, _ => wp_pure ⟨a, rfl, h⟩
  | d :: ds, i, a, P, hn, h, hb => by
    rw [List.length_cons] at hn
    unfold forF
    refine wp_bind (wp_mono (hb i a P (by omega) d List.mem_cons_self h) fun f P' ⟨a', e, q⟩ => ?_)
    subst e
    refine wp_mono (wp_for I N ds (i + 1) a' P' (by omega) q fun i a P hi x hx => hb i a P hi x (List.mem_cons_of_mem _ hx)) fun f p ⟨a2, e2, q2⟩ => ⟨a2, e2, ?_⟩
    rw [List.length_cons, show i + (ds.length + 1) = i + 1 + ds.length by omega]
    exact q2
theorem wp_withPot {ds : List D} {m : M (Fl α)} {Q : Fl α → Pot → Prop} (h : wp m (some ds) fun f P' => P' ≠ none ∧ Q f none) : wp (withPot ds m) none Q := by
  obtain ⟨a, P', e, n, q⟩ := h
  cases P' with
  | none => exact absurd rfl n
  | some ps => exact ⟨a, none, by unfold withPot; rw [e], q⟩
end
end DL
namespace KX
open PySem PySem.Spec PyProof.Rows L2 DL
def topS (i : Nat) : Stmt := PySem.Challenge.pw_loneguess_k42_whole_trees_by_their_rules.main.body.getD i (.Pass ⟨0, 0, 0, 0⟩)
def mthS (i j : Nat) : Stmt := (match topS i with | .ClassDef (body := b) .. => b | _ => []).getD j (.Pass ⟨0, 0, 0, 0⟩)
noncomputable section
variable {P : Program} {w : World} {K : PySem.W.Frag} {mg : Str → Option Value} {base : Heap} {TT : List (Addr × Str)}
def is_InvalidFormula : Str → Option Bool := fun n => if n = "InvalidFormula" then some true else none
def is_InvalidLetters : Str → Option Bool := fun n => if n = "InvalidFormula" then some false else none
def is_InvalidName : Str → Option Bool := fun n => if n = "InvalidFormula" then some false else none
def is_InvalidNumber : Str → Option Bool := fun n => if n = "InvalidFormula" then some false else none
def is_InvalidOperation : Str → Option Bool := fun n => if n = "InvalidFormula" then some false else none
def is_InvalidReader : Str → Option Bool := fun n => if n = "InvalidFormula" then some false else none
def is_InvalidText : Str → Option Bool := fun n => if n = "InvalidFormula" then some false else none
def is_NotLone : Str → Option Bool := fun n => if n = "InvalidFormula" then some false else none
def is_TooMany : Str → Option Bool := fun n => if n = "InvalidFormula" then some false else none
def is_UnknownName : Str → Option Bool := fun n => if n = "InvalidFormula" then some false else none
abbrev s_l_met_error : Stmt := topS 37
def hs_l_met_error : List (Hd Unit) := [(is_InvalidReader, fun _ => Pure.pure (.rt (.str "no reader"))), (is_InvalidText, fun _ => Pure.pure (.rt (.str "no text"))), (is_InvalidFormula, fun _ => Pure.pure (.rt (.str "no formula"))), (is_InvalidName, fun _ => Pure.pure (.rt (.str "no name"))), (is_InvalidLetters, fun _ => Pure.pure (.rt (.str "no letters"))), (is_InvalidOperation, fun _ => Pure.pure (.rt (.str "no such deed"))), (is_InvalidNumber, fun _ => M.no), (is_UnknownName, fun _ => M.no), (is_TooMany, fun _ => M.no), (is_NotLone, fun _ => M.no)]
abbrev s_is_plain : Stmt := topS 17
abbrev N_is_plain : List Str := ["text", "letter"]
theorem sc_is_plain : FnScope N_is_plain ["text"] (defScope s_is_plain) := ⟨rfl, rfl, rfl, by decide +kernel, rfl, by decide +kernel, by decide +kernel⟩
def m_is_plain (text0 : D) : M D := ((((((Pure.pure text0) >>= iterA) >>= fun ds => noEx (compF (fun _ => Pure.pure true) (fun letter1 => (chainM (Pure.pure (.str "a")) (Pure.pure letter1) (Pure.pure (.str "z")) leD leD)) ds) >>= mkL) >>= fun x => (Pure.pure []) >>= fun xs => Pure.pure (.v x :: xs)) >>= fun as => DL.vals as >>= f1 allD) >>= fun d => Pure.pure (.rt d)) >>= doneF (α := Unit)
def g_is_plain : List Ar → M D
  | [.v text0] => m_is_plain text0
  | _ => M.no
theorem c_is_plain {as : List Ar} {P : Pot} {ok : D → Pot → Prop} {ex : Ex → Pot → Prop} (h : out (g_is_plain as) P ok ex) : ∃ text0, as = [.v text0] := by
  unfold g_is_plain at h; split at h
  · exact ⟨_, rfl⟩
  · exact h.elim
theorem ok_is_plain {f : Addr} {fd : FuncData} (Fn : Fun K "is_plain" "is_plain" s_is_plain f fd) (b_all : mg "all" = none) : FnG P w K mg base 1 f fd ["text"] (spD ⟨mg, K, TT⟩ g_is_plain) := by
  refine fnG_of (k := 0) Fn rfl rfl sc_is_plain (fun as P ok ex h => by obtain ⟨text0, rfl⟩ := c_is_plain h; rfl) fun cd A fr s H0 G0 ap E as P0 ok ex h bx => ?_
  obtain ⟨text0, rfl⟩ := c_is_plain h
  have hu64 := hu_64 bx.cx.rm
  have hu65 := hu_65 bx.cx.rm
  have hu102 := hu_102 bx.cx.rm
  exact ⟨Unit, (fun (a : Unit) => [.un, .un]), _, ds_at (ρ' := [.v text0, .un]) rfl (ds_one (ds_ret (de_blt (cr_allD rfl) cd_all (by rfl) b_all (by decide +kernel) (da_cons (de_lc (own := [("letter", 1)]) (g := gName 1) (tt := tYes) rfl sc_is_plain.nd (blkOk_by (N := N_is_plain) (sc := defScope s_is_plain) (by decide +kernel)) (di_any rfl (de_var rfl (pv 0))) (tgt_name (by simp)) (fun ρ d h => nomatch h) test_yes (fun _ _ _ _ _ => pg_name (i := 1) sc_is_plain.nd rfl (Or.inl rfl)) (fun _ _ _ _ _ => pts_nil) (fun _ _ _ _ _ => pe_elt fun F letter1 ρ' e => by cases e; exact de_at (ρ' := [.v text0, .v letter1]) rfl (de_chain opr_le opr_le opd_le opd_le de_str (de_var rfl (pv 1)) de_str))) da_nil)))), rfl⟩
abbrev s_is_name : Stmt := topS 15
abbrev N_is_name : List Str := ["value"]
theorem sc_is_name : FnScope N_is_name ["value"] (defScope s_is_name) := ⟨rfl, rfl, rfl, by decide +kernel, rfl, by decide +kernel, by decide +kernel⟩
def m_is_name (value0 : D) : M D := ((((Pure.pure value0) >>= isiD "str") >>= fun x => boolD x >>= fun x => if x = true then ((chainM (Pure.pure (.int 1)) (((Pure.pure value0) >>= fun x => (Pure.pure []) >>= fun xs => Pure.pure (.v x :: xs)) >>= fun as => DL.vals as >>= f1 lenD) (Pure.pure (.int 8)) leD leD) >>= fun x => boolD x >>= fun x => if x = true then (((Pure.pure value0) >>= fun x => (Pure.pure []) >>= fun xs => Pure.pure (.v x :: xs)) >>= g_is_plain) else Pure.pure (.bl false)) else Pure.pure (.bl false)) >>= fun d => Pure.pure (.rt d)) >>= doneF (α := Unit)
def g_is_name : List Ar → M D
  | [.v value0] => m_is_name value0
  | _ => M.no
theorem c_is_name {as : List Ar} {P : Pot} {ok : D → Pot → Prop} {ex : Ex → Pot → Prop} (h : out (g_is_name as) P ok ex) : ∃ value0, as = [.v value0] := by
  unfold g_is_name at h; split at h
  · exact ⟨_, rfl⟩
  · exact h.elim
theorem ok_is_name {f : Addr} {fd : FuncData} (Fn : Fun K "is_name" "is_name" s_is_name f fd) (b_isinstance : mg "isinstance" = none) (b_len : mg "len" = none) (b_str : mg "str" = none) (e_MAX_LETTERS : ∃ t, mg "MAX_LETTERS" = some (.int 8 t)) (d_is_plain : Cal P w K mg base 1 "is_plain" (spD ⟨mg, K, TT⟩ g_is_plain)) : FnG P w K mg base 2 f fd ["value"] (spD ⟨mg, K, TT⟩ g_is_name) := by
  obtain ⟨t_MAX_LETTERS, c_MAX_LETTERS⟩ := e_MAX_LETTERS
  refine fnG_of (k := 1) Fn rfl rfl sc_is_name (fun as P ok ex h => by obtain ⟨value0, rfl⟩ := c_is_name h; rfl) fun cd A fr s H0 G0 ap E as P0 ok ex h bx => ?_
  obtain ⟨value0, rfl⟩ := c_is_name h
  have hu64 := hu_64 bx.cx.rm
  have hu65 := hu_65 bx.cx.rm
  have hu102 := hu_102 bx.cx.rm
  exact ⟨Unit, (fun (a : Unit) => [.un]), _, ds_at (ρ' := [.v value0]) rfl (ds_one (ds_ret (de_and (de_isi (T := "str") rfl (by decide) (by rfl) b_isinstance (de_var rfl (pv 0)) (by rfl) b_str (by decide +kernel)) (de_and (de_chain opr_le opr_le opd_le opd_le de_int (de_blt cr_len cd_len (by rfl) b_len (by decide +kernel) (da_cons (de_var rfl (pv 0)) da_nil)) (de_glob (v := .int 8) (by rfl) c_MAX_LETTERS ⟨_, rfl⟩ fun _ => .int _)) (de_one (de_callC d_is_plain ⟨rfl, rfl, bx.cx.ga, bx.cx.rm⟩ (by omega) bx.tk (by rfl) (da_cons (de_var rfl (pv 0)) da_nil))))))), rfl⟩
abbrev s_tuples_in : Stmt := topS 28
abbrev N_tuples_in : List Str := ["tree", "found", "part"]
theorem sc_tuples_in : FnScope N_tuples_in ["tree"] (defScope s_tuples_in) := ⟨rfl, rfl, rfl, by decide +kernel, rfl, by decide +kernel, by decide +kernel⟩
def m_tuples_in (G_tuples_in : List Ar → M D) (tree0 : D) : M D := (thenR (((((Pure.pure tree0) >>= fun x => (Pure.pure (.int 0)) >>= fun y => ixD x y) >>= fun x => (Pure.pure (.str "name")) >>= fun y => eqD x y) >>= boolD) >>= fun x => if x = true then ((((Pure.pure tree0) >>= fun x => (Pure.pure []) >>= fun xs => Pure.pure (.v x :: xs)) >>= fun as => DL.vals as >>= mkT) >>= fun d => Pure.pure (.rt d)) else (Pure.pure (.nx ()))) fun _ => (thenR ((((Pure.pure tree0) >>= fun x => (Pure.pure []) >>= fun xs => Pure.pure (.v x :: xs)) >>= fun as => DL.vals as >>= mkL) >>= fun d => Pure.pure (.nx d)) fun found3 => (thenR ((((Pure.pure tree0) >>= fun x => ((Pure.pure (.int 1)) >>= partD) >>= fun l => (Pure.pure none) >>= fun u => sliceD x l u) >>= iterA) >>= fun ds => forF (fun (a4 : D) part5 => (thenR (((Pure.pure a4) >>= fun x => (((((Pure.pure part5) >>= fun x => (Pure.pure []) >>= fun xs => Pure.pure (.v x :: xs)) >>= G_tuples_in) >>= fun x => (Pure.pure []) >>= fun xs => Pure.pure (.v x :: xs)) >>= fun as => DL.vals as >>= f1 listE) >>= fun y => addD x y) >>= fun d => Pure.pure (.nx d)) fun found6 => (Pure.pure (.nx found6)))) ds found3) fun a7 => ((((Pure.pure a7) >>= fun x => (Pure.pure []) >>= fun xs => Pure.pure (.v x :: xs)) >>= fun as => DL.vals as >>= f1 tupleD) >>= fun d => Pure.pure (.rt d))))) >>= doneF (α := Unit)
def g_tuples_in : Nat → List Ar → M D
  | n + 1, [.v tree0] => m_tuples_in (g_tuples_in n) tree0
  | _, _ => M.no
theorem c_tuples_in {n : Nat} {as : List Ar} {P : Pot} {ok : D → Pot → Prop} {ex : Ex → Pot → Prop} (h : out ((g_tuples_in (n + 1)) as) P ok ex) : ∃ tree0, as = [.v tree0] := by
  unfold g_tuples_in at h; split at h
  · rename_i z; exact ⟨_, rfl⟩
  · exact h.elim
theorem ok_tuples_in {f : Addr} {fd : FuncData} (Fn : Fun K "_tuples_in" "_tuples_in" s_tuples_in f fd) (b_list : mg "list" = none) (b_tuple : mg "tuple" = none) (hm_ : mg "_tuples_in" = some (.ref f)) (hk_ : PySem.W.keepIn K (.ref f) = true) (hb_ : Binds K fd ["tree"] []) : ∀ n, FnG P w K mg base (0 + 1 * n + 1) f fd ["tree"] (spD ⟨mg, K, TT⟩ (g_tuples_in n)) := by
  intro n
  induction n with
  | zero => exact fnG_of (k := 0) Fn rfl rfl sc_tuples_in (fun as P ok ex h => (out_no h).elim) fun cd A fr s H0 G0 ap E as P0 ok ex h bx => (out_no h).elim
  | succ n ih =>
    have d_tuples_in : Cal P w K mg base (0 + 1 * n + 1) "_tuples_in" (spD ⟨mg, K, TT⟩ (g_tuples_in n)) := ⟨⟨f, fd, _, ih, hm_, hk_, hb_⟩⟩
    have ee : 0 + 1 * (n + 1) + 1 = (0 + 1 * n + 1) + 1 := by omega
    rw [ee]
    refine fnG_of (k := 0 + 1 * n + 1) Fn rfl rfl sc_tuples_in (fun as P ok ex h => by obtain ⟨tree0, rfl⟩ := c_tuples_in h; rfl) fun cd A fr s H0 G0 ap E as P0 ok ex h bx => ?_
    obtain ⟨tree0, rfl⟩ := c_tuples_in h
    have hu64 := hu_64 bx.cx.rm
    have hu65 := hu_65 bx.cx.rm
    have hu102 := hu_102 bx.cx.rm
    exact ⟨Unit, (fun (a : Unit) => [.un, .un, .un]), _, ds_at (ρ' := [.v tree0, .un, .un]) rfl (ds_cons (ds_if (E := (fun (a : Unit) => [.v tree0, .un, .un])) (dt_cmp (op_eqD hu64) opd_eq (de_ix rfl (de_var rfl (pv 0)) de_int (by intro _ _; rfl)) de_str) (ds_one (ds_ret (de_tup (da_cons (de_var rfl (pv 0)) da_nil)))) (ds_end (a := ()) (.k (.k (.k FogL.n))))) fun _ => ds_at (ρ' := [.v tree0, .un, .un]) rfl (ds_cons (ds_set (i := 1) sc_tuples_in.nd rfl (Or.inl rfl) (de_lst (da_cons (de_var rfl (pv 0)) da_nil))) fun found3 => ds_at (ρ' := [.v tree0, .v found3, .un]) rfl (ds_cons (ds_for (E := (fun (a : D) => [.v tree0, .v a, .un])) (a₀ := found3) (t := fun (a : D) d => some (((fun (a : D) => [.v tree0, .v a, .un]) a).set 2 (.v d))) bx.own rfl (Rel.fogL (.k (.k (.k FogL.n)))) (di_any rfl (de_slice rfl (de_var rfl (pv 0)) (do_some de_int) do_none)) (pg_ex fun a => dg_name (i := 2) sc_tuples_in.nd rfl (Or.inl rfl)) (fun a d h => nomatch h) (pss_for fun a4 part5 ρ' e => by cases e; exact ds_at (ρ' := [.v tree0, .v a4, .v part5]) rfl (ds_cons (ds_set (i := 1) sc_tuples_in.nd rfl (Or.inl rfl) (de_op opr_add opd_add (de_var rfl (pv 1)) (de_ty (cr_listE rfl) cd_listE (by rfl) b_list (by decide +kernel) (da_cons (de_callC d_tuples_in ⟨rfl, rfl, bx.cx.ga, bx.cx.rm⟩ (by omega) bx.tk (by rfl) (da_cons (de_var rfl (pv 2)) da_nil)) da_nil)))) fun found6 => ds_at (ρ' := [.v tree0, .v found6, .v part5]) rfl (ds_end (a := found6) (.k (.k (.u FogL.n))))))) fun a7 => ds_at (ρ' := [.v tree0, .v a7, .un]) rfl (ds_one (ds_ret (de_ty cr_tuple cd_tuple (by rfl) b_tuple (by decide +kernel) (da_cons (de_var rfl (pv 1)) da_nil))))))), rfl⟩
abbrev s_is_formula_name : Stmt := topS 24
abbrev N_is_formula_name : List Str := ["value"]
theorem sc_is_formula_name : FnScope N_is_formula_name ["value"] (defScope s_is_formula_name) := ⟨rfl, rfl, rfl, by decide +kernel, rfl, by decide +kernel, by decide +kernel⟩
def m_is_formula_name (value0 : D) : M D := (((((Pure.pure value0) >>= fun x => (Pure.pure []) >>= fun xs => Pure.pure (.v x :: xs)) >>= g_is_name) >>= fun x => boolD x >>= fun x => if x = true then ((Pure.pure value0) >>= fun x => (Pure.pure (.tup [.str "all", .str "and", .str "none", .str "not", .str "or"])) >>= fun y => (inD true) x y) else Pure.pure (.bl false)) >>= fun d => Pure.pure (.rt d)) >>= doneF (α := Unit)
def g_is_formula_name : List Ar → M D
  | [.v value0] => m_is_formula_name value0
  | _ => M.no
theorem c_is_formula_name {as : List Ar} {P : Pot} {ok : D → Pot → Prop} {ex : Ex → Pot → Prop} (h : out (g_is_formula_name as) P ok ex) : ∃ value0, as = [.v value0] := by
  unfold g_is_formula_name at h; split at h
  · exact ⟨_, rfl⟩
  · exact h.elim
theorem ok_is_formula_name {f : Addr} {fd : FuncData} (Fn : Fun K "is_formula_name" "is_formula_name" s_is_formula_name f fd) (d_is_name : Cal P w K mg base 2 "is_name" (spD ⟨mg, K, TT⟩ g_is_name)) (v_WORDS : KVal ⟨mg, K, TT⟩ "WORDS" (.tup [.str "all", .str "and", .str "none", .str "not", .str "or"])) : FnG P w K mg base 3 f fd ["value"] (spD ⟨mg, K, TT⟩ g_is_formula_name) := by
  refine fnG_of (k := 2) Fn rfl rfl sc_is_formula_name (fun as P ok ex h => by obtain ⟨value0, rfl⟩ := c_is_formula_name h; rfl) fun cd A fr s H0 G0 ap E as P0 ok ex h bx => ?_
  obtain ⟨value0, rfl⟩ := c_is_formula_name h
  have hu64 := hu_64 bx.cx.rm
  have hu65 := hu_65 bx.cx.rm
  have hu102 := hu_102 bx.cx.rm
  exact ⟨Unit, (fun (a : Unit) => [.un]), _, ds_at (ρ' := [.v value0]) rfl (ds_one (ds_ret (de_and (de_callC d_is_name ⟨rfl, rfl, bx.cx.ga, bx.cx.rm⟩ (by omega) bx.tk (by rfl) (da_cons (de_var rfl (pv 0)) da_nil)) (de_one (de_cmp (opr_notin hu65) (opd_in true) (de_var rfl (pv 0)) (de_globK ⟨rfl, rfl, bx.cx.ga, bx.cx.rm⟩ (by rfl) v_WORDS)))))), rfl⟩
abbrev s_is_tree : Stmt := topS 27
abbrev N_is_tree : List Str := ["value", "depth", "part"]
theorem sc_is_tree : FnScope N_is_tree ["value", "depth"] (defScope s_is_tree) := ⟨rfl, rfl, rfl, by decide +kernel, rfl, by decide +kernel, by decide +kernel⟩
def m_is_tree (G_is_tree : List Ar → M D) (value0 : D) (depth0 : D) : M D := (thenR (((((Pure.pure depth0) >>= fun x => (Pure.pure (.int 0)) >>= fun y => eqX x y) >>= boolD) >>= fun x => if x = true then Pure.pure true else (((((Pure.pure value0) >>= isiD "tuple") >>= boolD) >>= fun b => Pure.pure (!b)) >>= fun x => if x = true then Pure.pure true else (((Pure.pure value0) >>= truE) >>= fun b => Pure.pure (!b)))) >>= fun x => if x = true then ((Pure.pure (.bl false)) >>= fun d => Pure.pure (.rt d)) else (Pure.pure (.nx ()))) fun _ => (thenR (((((Pure.pure value0) >>= fun x => (Pure.pure (.int 0)) >>= fun y => ixD x y) >>= fun x => (Pure.pure (.str "name")) >>= fun y => eqX x y) >>= boolD) >>= fun x => if x = true then ((((((Pure.pure value0) >>= fun x => (Pure.pure []) >>= fun xs => Pure.pure (.v x :: xs)) >>= fun as => DL.vals as >>= f1 lenD) >>= fun x => (Pure.pure (.int 2)) >>= fun y => eqX x y) >>= fun x => boolD x >>= fun x => if x = true then ((((Pure.pure value0) >>= fun x => (Pure.pure (.int 1)) >>= fun y => ixD x y) >>= fun x => (Pure.pure []) >>= fun xs => Pure.pure (.v x :: xs)) >>= g_is_formula_name) else Pure.pure (.bl false)) >>= fun d => Pure.pure (.rt d)) else (Pure.pure (.nx ()))) fun _ => (thenR (((((((Pure.pure value0) >>= fun x => (Pure.pure (.int 0)) >>= fun y => ixD x y) >>= isiD "str") >>= boolD) >>= fun b => Pure.pure (!b)) >>= fun x => if x = true then Pure.pure true else (((((Pure.pure value0) >>= fun x => (Pure.pure []) >>= fun xs => Pure.pure (.v x :: xs)) >>= fun as => DL.vals as >>= f1 lenD) >>= fun x => (((Pure.pure value0) >>= fun x => (Pure.pure (.int 0)) >>= fun y => ixD x y) >>= fun y => (Pure.pure (.int 0)) >>= fun z => kgetD [("all", some 1), ("none", some 1), ("not", some 2), ("and", some 3), ("or", some 3), ("", none), ("name", none), ("A", none), ("ninechars", none), ("x", none), ("u", none), ("q", none), ("r", none), ("s", none), ("t", none), ("a", none), ("odd", none), ("ends", none), ("zzzzzzzz", none), ("nota", none)] y z) >>= fun y => neD x y) >>= boolD)) >>= fun x => if x = true then ((Pure.pure (.bl false)) >>= fun d => Pure.pure (.rt d)) else (Pure.pure (.nx ()))) fun _ => (((((((Pure.pure value0) >>= fun x => ((Pure.pure (.int 1)) >>= partD) >>= fun l => (Pure.pure none) >>= fun u => sliceD x l u) >>= iterA) >>= fun ds => noEx (compF (fun _ => Pure.pure true) (fun part11 => (((Pure.pure part11) >>= fun x => (((Pure.pure depth0) >>= fun x => (Pure.pure (.int 1)) >>= fun y => subD x y) >>= fun x => (Pure.pure []) >>= fun xs => Pure.pure (.v x :: xs)) >>= fun xs => Pure.pure (.v x :: xs)) >>= G_is_tree)) ds) >>= mkL) >>= fun x => (Pure.pure []) >>= fun xs => Pure.pure (.v x :: xs)) >>= fun as => DL.vals as >>= f1 allD) >>= fun d => Pure.pure (.rt d))))) >>= doneF (α := Unit)
def g_is_tree : Nat → List Ar → M D
  | n + 1, [.v value0, .v depth0] => m_is_tree (g_is_tree n) value0 depth0
  | _, _ => M.no
theorem c_is_tree {n : Nat} {as : List Ar} {P : Pot} {ok : D → Pot → Prop} {ex : Ex → Pot → Prop} (h : out ((g_is_tree (n + 1)) as) P ok ex) : ∃ value0 depth0, as = [.v value0, .v depth0] := by
  unfold g_is_tree at h; split at h
  · rename_i z; exact ⟨_, _, rfl⟩
  · exact h.elim
theorem ok_is_tree {f : Addr} {fd : FuncData} (Fn : Fun K "_is_tree" "_is_tree" s_is_tree f fd) (b_all : mg "all" = none) (b_isinstance : mg "isinstance" = none) (b_len : mg "len" = none) (b_str : mg "str" = none) (b_tuple : mg "tuple" = none) (d_is_formula_name : Cal P w K mg base 3 "is_formula_name" (spD ⟨mg, K, TT⟩ g_is_formula_name)) (kt_PARTS : KTab ⟨mg, K, TT⟩ w "_PARTS" [("all", some 1), ("none", some 1), ("not", some 2), ("and", some 3), ("or", some 3), ("", none), ("name", none), ("A", none), ("ninechars", none), ("x", none), ("u", none), ("q", none), ("r", none), ("s", none), ("t", none), ("a", none), ("odd", none), ("ends", none), ("zzzzzzzz", none), ("nota", none)]) (hm_ : mg "_is_tree" = some (.ref f)) (hk_ : PySem.W.keepIn K (.ref f) = true) (hb_ : Binds K fd ["value", "depth"] []) : ∀ n, FnG P w K mg base (3 + 1 * n + 1) f fd ["value", "depth"] (spD ⟨mg, K, TT⟩ (g_is_tree n)) := by
  intro n
  induction n with
  | zero => exact fnG_of (k := 3) Fn rfl rfl sc_is_tree (fun as P ok ex h => (out_no h).elim) fun cd A fr s H0 G0 ap E as P0 ok ex h bx => (out_no h).elim
  | succ n ih =>
    have d_is_tree : Cal P w K mg base (3 + 1 * n + 1) "_is_tree" (spD ⟨mg, K, TT⟩ (g_is_tree n)) := ⟨⟨f, fd, _, ih, hm_, hk_, hb_⟩⟩
    have ee : 3 + 1 * (n + 1) + 1 = (3 + 1 * n + 1) + 1 := by omega
    rw [ee]
    refine fnG_of (k := 3 + 1 * n + 1) Fn rfl rfl sc_is_tree (fun as P ok ex h => by obtain ⟨value0, depth0, rfl⟩ := c_is_tree h; rfl) fun cd A fr s H0 G0 ap E as P0 ok ex h bx => ?_
    obtain ⟨value0, depth0, rfl⟩ := c_is_tree h
    have hu64 := hu_64 bx.cx.rm
    have hu65 := hu_65 bx.cx.rm
    have hu102 := hu_102 bx.cx.rm
    exact ⟨Unit, (fun (a : Unit) => [.un, .un, .un]), _, ds_at (ρ' := [.v value0, .v depth0, .un]) rfl (ds_cons (ds_if (E := (fun (a : Unit) => [.v value0, .v depth0, .un])) (PW.pt (dw_or (dt_cmp (opr_eqX hu64) opd_eqX (de_var rfl (pv 1)) de_int) (dw_or (dt_not (dt_val (de_isi (T := "tuple") rfl (by decide) (by rfl) b_isinstance (de_var rfl (pv 0)) (by rfl) b_tuple (by decide +kernel)))) (dw_or1 (dt_not (dt_tru rfl (de_var rfl (pv 0)))))))) (ds_one (ds_ret de_bl)) (ds_end (a := ()) (.k (.k (.k FogL.n))))) fun _ => ds_at (ρ' := [.v value0, .v depth0, .un]) rfl (ds_cons (ds_if (E := (fun (a : Unit) => [.v value0, .v depth0, .un])) (dt_cmp (opr_eqX hu64) opd_eqX (de_ix rfl (de_var rfl (pv 0)) de_int (by intro _ _; rfl)) de_str) (ds_one (ds_ret (de_and (de_cmp (opr_eqX hu64) opd_eqX (de_blt cr_len cd_len (by rfl) b_len (by decide +kernel) (da_cons (de_var rfl (pv 0)) da_nil)) de_int) (de_one (de_callC d_is_formula_name ⟨rfl, rfl, bx.cx.ga, bx.cx.rm⟩ (by omega) bx.tk (by rfl) (da_cons (de_ix rfl (de_var rfl (pv 0)) de_int (by intro _ _; rfl)) da_nil)))))) (ds_end (a := ()) (.k (.k (.k FogL.n))))) fun _ => ds_at (ρ' := [.v value0, .v depth0, .un]) rfl (ds_cons (ds_if (E := (fun (a : Unit) => [.v value0, .v depth0, .un])) (PW.pt (dw_or (dt_not (dt_val (de_isi (T := "str") rfl (by decide) (by rfl) b_isinstance (de_ix rfl (de_var rfl (pv 0)) de_int (by intro _ _; rfl)) (by rfl) b_str (by decide +kernel)))) (dw_or1 (dt_cmp (op_neD hu64) opd_ne (de_blt cr_len cd_len (by rfl) b_len (by decide +kernel) (da_cons (de_var rfl (pv 0)) da_nil)) (de_kget (w := w) (tab := [("all", some 1), ("none", some 1), ("not", some 2), ("and", some 3), ("or", some 3), ("", none), ("name", none), ("A", none), ("ninechars", none), ("x", none), ("u", none), ("q", none), ("r", none), ("s", none), ("t", none), ("a", none), ("odd", none), ("ends", none), ("zzzzzzzz", none), ("nota", none)]) ⟨rfl, rfl, bx.cx.ga, bx.cx.rm⟩ rfl kt_PARTS (by rfl) (de_ix rfl (de_var rfl (pv 0)) de_int (by intro _ _; rfl)) de_int ⟨rfl, rfl, rfl, rfl⟩))))) (ds_one (ds_ret de_bl)) (ds_end (a := ()) (.k (.k (.k FogL.n))))) fun _ => ds_at (ρ' := [.v value0, .v depth0, .un]) rfl (ds_one (ds_ret (de_blt (cr_allD rfl) cd_all (by rfl) b_all (by decide +kernel) (da_cons (de_lc (own := [("part", 2)]) (g := gName 2) (tt := tYes) rfl sc_is_tree.nd (blkOk_by (N := N_is_tree) (sc := defScope s_is_tree) (by decide +kernel)) (di_any rfl (de_slice rfl (de_var rfl (pv 0)) (do_some de_int) do_none)) (tgt_name (by simp)) (fun ρ d h => nomatch h) test_yes (fun _ _ _ _ _ => pg_name (i := 2) sc_is_tree.nd rfl (Or.inl rfl)) (fun _ _ _ _ _ => pts_nil) (fun _ _ _ _ _ => pe_elt fun F part11 ρ' e => by cases e; exact de_at (ρ' := [.v value0, .v depth0, .v part11]) rfl (de_callC d_is_tree ⟨rfl, rfl, bx.cx.ga, bx.cx.rm⟩ (by omega) takes0 (by rfl) (da_cons (de_var rfl (pv 2)) (da_cons (de_op op_sub opd_sub (de_var rfl (pv 1)) de_int) da_nil))))) da_nil))))))), rfl⟩
abbrev s_Formula_init_d : Stmt := mthS 23 0
abbrev N_Formula_init_d : List Str := ["self", "tree", "tuples", "names", "part"]
theorem sc_Formula_init_d : FnScope N_Formula_init_d ["self", "tree"] (defScope s_Formula_init_d) := ⟨rfl, rfl, rfl, by decide +kernel, rfl, by decide +kernel, by decide +kernel⟩
def m_Formula_init_d (tree0 : D) : M (List (Str × D)) := ((thenR ((((((Pure.pure tree0) >>= fun x => ((Pure.pure (.int 8)) >>= fun x => (Pure.pure []) >>= fun xs => Pure.pure (.v x :: xs)) >>= fun xs => Pure.pure (.v x :: xs)) >>= (g_is_tree 14)) >>= boolD) >>= fun b => Pure.pure (!b)) >>= fun x => if x = true then (M.raise ⟨"InvalidFormula", none⟩) else (Pure.pure (.nx ()))) fun _ => (thenR ((((Pure.pure tree0) >>= fun x => (Pure.pure []) >>= fun xs => Pure.pure (.v x :: xs)) >>= (g_tuples_in 14)) >>= fun d => Pure.pure (.nx d)) fun tuples13 => (thenR ((((((((Pure.pure tuples13) >>= iterA) >>= fun ds => noEx (dcF (fun part15 => ((((Pure.pure part15) >>= fun x => (Pure.pure (.int 0)) >>= fun y => ixD x y) >>= fun x => (Pure.pure (.str "name")) >>= fun y => eqD x y) >>= boolD)) (fun part15 => ((Pure.pure part15) >>= fun x => (Pure.pure (.int 1)) >>= fun y => ixD x y)) (fun part15 => (Pure.pure (.bl true))) ds []) >>= fun kvs => Pure.pure (dicD kvs)) >>= fun x => (Pure.pure []) >>= fun xs => Pure.pure (.v x :: xs)) >>= fun as => DL.vals as >>= f1 listE) >>= fun x => (Pure.pure []) >>= fun xs => Pure.pure (.v x :: xs)) >>= fun as => DL.vals as >>= f1 sortD) >>= fun d => Pure.pure (.nx d)) fun names14 => (thenR ((((((Pure.pure names14) >>= fun x => (Pure.pure []) >>= fun xs => Pure.pure (.v x :: xs)) >>= fun as => DL.vals as >>= f1 lenD) >>= fun x => (Pure.pure (.int 4)) >>= fun y => gtD x y) >>= boolD) >>= fun x => if x = true then (M.raise ⟨"InvalidFormula", none⟩) else (Pure.pure (.nx ()))) fun _ => (thenR ((Pure.pure tree0) >>= fun d => Pure.pure (.nx d)) fun tree17 => (thenR ((Pure.pure tuples13) >>= fun d => Pure.pure (.nx d)) fun tuples18 => (thenR ((((Pure.pure names14) >>= fun x => (Pure.pure []) >>= fun xs => Pure.pure (.v x :: xs)) >>= fun as => DL.vals as >>= f1 tupleD) >>= fun d => Pure.pure (.nx d)) fun names19 => (Pure.pure (.nx (putA "_names" names19 (putA "_tuples" tuples18 (putA "_tree" tree17 [])))))))))))) : M (Fl (List (Str × D)))) >>= doneI
def g_Formula_init_d : List Ar → M (List (Str × D))
  | [.v tree0] => m_Formula_init_d tree0
  | _ => M.no
theorem c_Formula_init_d {as : List Ar} {P : Pot} {ok : List (Str × D) → Pot → Prop} {ex : Ex → Pot → Prop} (h : out (g_Formula_init_d as) P ok ex) : ∃ tree0, as = [.v tree0] := by
  unfold g_Formula_init_d at h; split at h
  · exact ⟨_, rfl⟩
  · exact h.elim
theorem ok_Formula_init_d {f : Addr} {fd : FuncData} (Fn : Fun K "__init__" "Formula.__init__" s_Formula_init_d f fd) (b_len : mg "len" = none) (b_list : mg "list" = none) (b_sorted : mg "sorted" = none) (b_tuple : mg "tuple" = none) (e_MAX_DEPTH : ∃ t, mg "MAX_DEPTH" = some (.int 8 t)) (e_MAX_NAMES : ∃ t, mg "MAX_NAMES" = some (.int 4 t)) (d_is_tree : Cal P w K mg base 18 "_is_tree" (spD ⟨mg, K, TT⟩ (g_is_tree 14))) (d_tuples_in : Cal P w K mg base 15 "_tuples_in" (spD ⟨mg, K, TT⟩ (g_tuples_in 14))) (x_InvalidFormula : Exc0 K mg "InvalidFormula") (hf_names : ∀ cn ∈ (["Formula"] : List Str), AtC ⟨mg, K, TT⟩ cn fun C => Cls K C ∧ NoAttr K C "_names") (hf_tree : ∀ cn ∈ (["Formula"] : List Str), AtC ⟨mg, K, TT⟩ cn fun C => Cls K C ∧ NoAttr K C "_tree") (hf_tuples : ∀ cn ∈ (["Formula"] : List Str), AtC ⟨mg, K, TT⟩ cn fun C => Cls K C ∧ NoAttr K C "_tuples") : FnG P w K mg base 19 f fd ["self", "tree"] (spI ⟨mg, K, TT⟩ "Formula" g_Formula_init_d) := by
  obtain ⟨t_MAX_DEPTH, c_MAX_DEPTH⟩ := e_MAX_DEPTH
  obtain ⟨t_MAX_NAMES, c_MAX_NAMES⟩ := e_MAX_NAMES
  refine fnI_of2 (k := 18) Fn rfl rfl sc_Formula_init_d (fun as P ok ex h => by obtain ⟨tree0, rfl⟩ := c_Formula_init_d h; rfl) fun cd A fr s H0 H1 G0 ap E as P0 ok ex h bx => ?_
  obtain ⟨tree0, rfl⟩ := c_Formula_init_d h
  have hu64 := hu_64 bx.cx.rm
  have hu65 := hu_65 bx.cx.rm
  have hu102 := hu_102 bx.cx.rm
  exact ⟨(fun me (a : List (Str × D)) => [.o (.i me "Formula" a), .un, .un, .un, .un]), _, fun me a => rfl, fun me => ds_at (ρ' := [.o (.i me "Formula" []), .v tree0, .un, .un, .un]) rfl (ds_cons (ds_if (E := (fun (a : Unit) => [.o (.i me "Formula" []), .v tree0, .un, .un, .un])) (dt_not (dt_val (de_callC d_is_tree ⟨rfl, rfl, bx.cx.ga, bx.cx.rm⟩ (by omega) bx.tk (by rfl) (da_cons (de_var rfl (pv 1)) (da_cons (de_glob (v := .int 8) (by rfl) c_MAX_DEPTH ⟨_, rfl⟩ fun _ => .int _) da_nil))))) (ds_one (ds_raiseC x_InvalidFormula rfl rfl rfl bx.tk (by rfl))) (ds_end (a := ()) (.k (.k (.k (.k (.k FogL.n))))))) fun _ => ds_at (ρ' := [.o (.i me "Formula" []), .v tree0, .un, .un, .un]) rfl (ds_cons (ds_set (i := 2) sc_Formula_init_d.nd rfl (Or.inl rfl) (de_callC d_tuples_in ⟨rfl, rfl, bx.cx.ga, bx.cx.rm⟩ (by omega) bx.tk (by rfl) (da_cons (de_var rfl (pv 1)) da_nil))) fun tuples13 => ds_at (ρ' := [.o (.i me "Formula" []), .v tree0, .v tuples13, .un, .un]) rfl (ds_cons (ds_set (i := 3) sc_Formula_init_d.nd rfl (Or.inl rfl) (de_blt (SX.cr_sortD hu64) cd_sortD (by rfl) b_sorted (by decide +kernel) (da_cons (de_ty (cr_listE rfl) cd_listE (by rfl) b_list (by decide +kernel) (da_cons (de_dc (own := [("part", 4)]) (g := gName 4)  rfl sc_Formula_init_d.nd (blkOk_by (N := N_Formula_init_d) (sc := defScope s_Formula_init_d) (by decide +kernel)) (di_any rfl (de_var rfl (pv 2))) (tgt_name (by simp)) (fun ρ d h => nomatch h) test_rd (fun _ _ _ _ _ => pg_name (i := 4) sc_Formula_init_d.nd rfl (Or.inl rfl)) (fun _ _ _ _ _ => pts_one (pt_tst fun F part15 ρ' e => by cases e; exact dt_at (ρ' := [.un, .v tree0, .v tuples13, .un, .v part15]) rfl (dt_cmp (op_eqD hu64) opd_eq (de_ix rfl (de_var rfl (pv 4)) de_int (by intro _ _; rfl)) de_str))) (fun _ _ _ _ _ => pe_elt fun F part15 ρ' e => by cases e; exact de_at (ρ' := [.un, .v tree0, .v tuples13, .un, .v part15]) rfl (de_ix rfl (de_var rfl (pv 4)) de_int (by intro _ _; rfl))) (fun _ _ _ _ _ => pe_elt fun F part15 ρ' e => by cases e; exact de_at (ρ' := [.un, .v tree0, .v tuples13, .un, .v part15]) rfl de_bl)) da_nil)) da_nil))) fun names14 => ds_at (ρ' := [.o (.i me "Formula" []), .v tree0, .v tuples13, .v names14, .un]) rfl (ds_cons (ds_if (E := (fun (a : Unit) => [.o (.i me "Formula" []), .v tree0, .v tuples13, .v names14, .un])) (dt_cmp opr_gt opd_gt (de_blt cr_len cd_len (by rfl) b_len (by decide +kernel) (da_cons (de_var rfl (pv 3)) da_nil)) (de_glob (v := .int 4) (by rfl) c_MAX_NAMES ⟨_, rfl⟩ fun _ => .int _)) (ds_one (ds_raiseC x_InvalidFormula rfl rfl rfl bx.tk (by rfl))) (ds_end (a := ()) (.k (.k (.k (.k (.k FogL.n))))))) fun _ => ds_at (ρ' := [.o (.i me "Formula" []), .v tree0, .v tuples13, .v names14, .un]) rfl (ds_cons (ds_fld (i := 0) rfl rfl (hf_tree _ List.mem_cons_self) (l9 l9z) (pv 0) (de_var rfl (pv 1))) fun tree17 => ds_at (ρ' := [.o (.i me "Formula" (putA "_tree" tree17 [])), .v tree0, .v tuples13, .v names14, .un]) rfl (ds_cons (ds_fld (i := 0) rfl rfl (hf_tuples _ List.mem_cons_self) (l9 (l9s l9z)) (pv 0) (de_var rfl (pv 2))) fun tuples18 => ds_at (ρ' := [.o (.i me "Formula" (putA "_tuples" tuples18 (putA "_tree" tree17 []))), .v tree0, .v tuples13, .v names14, .un]) rfl (ds_cons (ds_fld (i := 0) rfl rfl (hf_names _ List.mem_cons_self) (l9 (l9s (l9s l9z))) (pv 0) (de_ty cr_tuple cd_tuple (by rfl) b_tuple (by decide +kernel) (da_cons (de_var rfl (pv 3)) da_nil))) fun names19 => ds_at (ρ' := [.o (.i me "Formula" (putA "_names" names19 (putA "_tuples" tuples18 (putA "_tree" tree17 [])))), .v tree0, .v tuples13, .v names14, .un]) rfl (ds_end (a := (putA "_names" names19 (putA "_tuples" tuples18 (putA "_tree" tree17 [])))) (.k (.u (.u (.u (.k FogL.n))))))))))))), rfl⟩
abbrev s_Formula_tree : Stmt := mthS 23 2
abbrev N_Formula_tree : List Str := ["self"]
theorem sc_Formula_tree : FnScope N_Formula_tree ["self"] (defScope s_Formula_tree) := ⟨rfl, rfl, rfl, by decide +kernel, rfl, by decide +kernel, by decide +kernel⟩
def m_Formula_tree (self0 : D) : M D := (((Pure.pure self0) >>= fldD ["Formula"] "_tree") >>= fun d => Pure.pure (.rt d)) >>= doneF (α := Unit)
def g_Formula_tree : List Ar → M D
  | [.v self0] => m_Formula_tree self0
  | _ => M.no
theorem c_Formula_tree {as : List Ar} {P : Pot} {ok : D → Pot → Prop} {ex : Ex → Pot → Prop} (h : out (g_Formula_tree as) P ok ex) : ∃ self0, as = [.v self0] := by
  unfold g_Formula_tree at h; split at h
  · exact ⟨_, rfl⟩
  · exact h.elim
theorem ok_Formula_tree {f : Addr} {fd : FuncData} (Fn : Fun K "tree" "Formula.tree" s_Formula_tree f fd) (hf_tree : ∀ cn ∈ (["Formula"] : List Str), AtC ⟨mg, K, TT⟩ cn fun C => Cls K C ∧ NoAttr K C "_tree") : FnG P w K mg base 1 f fd ["self"] (spD ⟨mg, K, TT⟩ g_Formula_tree) := by
  refine fnG_of (k := 0) Fn rfl rfl sc_Formula_tree (fun as P ok ex h => by obtain ⟨self0, rfl⟩ := c_Formula_tree h; rfl) fun cd A fr s H0 G0 ap E as P0 ok ex h bx => ?_
  obtain ⟨self0, rfl⟩ := c_Formula_tree h
  have hu64 := hu_64 bx.cx.rm
  have hu65 := hu_65 bx.cx.rm
  have hu102 := hu_102 bx.cx.rm
  exact ⟨Unit, (fun (a : Unit) => [.un]), _, ds_at (ρ' := [.v self0]) rfl (ds_one (ds_ret (de_fld (cns := ["Formula"]) rfl hf_tree (de_var rfl (pv 0))))), rfl⟩
abbrev s_l_pot : Stmt := topS 33
abbrev N_l_pot : List Str := ["_law_script", "_law_at", "_law_cell", "_law_great", "_law_blend"]
theorem sc_l_pot : FnScope N_l_pot ["_law_script", "_law_at"] (defScope s_l_pot) := ⟨rfl, rfl, rfl, by decide +kernel, rfl, by decide +kernel, by decide +kernel⟩
def m_l_pot (l_script0 : D) (l_at0 : D) : M (List D) := (thenF (((((Pure.pure l_at0) >>= fun x => (((Pure.pure l_script0) >>= fun x => (Pure.pure []) >>= fun xs => Pure.pure (.v x :: xs)) >>= fun as => DL.vals as >>= f1 lenD) >>= fun y => ltD x y) >>= boolD) >>= fun x => if x = true then ((Pure.pure l_script0) >>= fun x => (Pure.pure l_at0) >>= fun y => ixD x y) else (((Pure.pure (.int 67)) >>= fun x => (Pure.pure l_at0) >>= fun y => mulD x y) >>= fun x => (Pure.pure (.int 37)) >>= fun y => addD x y)) >>= fun d => Pure.pure (.nx d)) fun l_cell20 => (thenF (((((((Pure.pure l_cell20) >>= fun x => (Pure.pure []) >>= fun xs => Pure.pure (.v x :: xs)) >>= fun as => DL.vals as >>= f1 absD) >>= fun x => (Pure.pure []) >>= fun xs => Pure.pure (.v x :: xs)) >>= fun as => DL.vals as >>= f1 intOf) >>= fun x => (((Pure.pure (.int 10)) >>= fun x => (Pure.pure (.int 61)) >>= fun y => powD x y) >>= fun x => (Pure.pure (.int 11)) >>= fun y => powD x y) >>= fun y => modD x y) >>= fun d => Pure.pure (.nx d)) fun l_great21 => (thenF (((((((((Pure.pure l_great21) >>= fun x => (Pure.pure []) >>= fun xs => Pure.pure (.v x :: xs)) >>= fun as => DL.vals as >>= f1 intOf) >>= fun x => (Pure.pure (.int 2147483249)) >>= fun y => modD x y) >>= fun x => (Pure.pure (.int 96293)) >>= fun y => mulD x y) >>= fun x => ((Pure.pure (.int 9413)) >>= fun x => (Pure.pure l_at0) >>= fun y => mulD x y) >>= fun y => addD x y) >>= fun x => ((Pure.pure (.int 47)) >>= fun x => ((((Pure.pure l_cell20) >>= fun x => (Pure.pure (.int 0)) >>= fun y => ltD x y) >>= fun x => (Pure.pure []) >>= fun xs => Pure.pure (.v x :: xs)) >>= fun as => DL.vals as >>= f1 intOf) >>= fun y => mulD x y) >>= fun y => addD x y) >>= fun x => (Pure.pure (.int 73)) >>= fun y => addD x y) >>= fun d => Pure.pure (.nx d)) fun l_blend22 => (((((Pure.pure (.int 0)) >>= fun x => (((Pure.pure l_great21) >>= fun x => ((Pure.pure (.int 10)) >>= fun x => (Pure.pure (.int 18)) >>= fun y => powD x y) >>= fun y => subD x y) >>= fun x => (Pure.pure []) >>= fun xs => Pure.pure (.v x :: xs)) >>= fun xs => Pure.pure (.v x :: xs)) >>= fun as => DL.vals as >>= f2 maxD) >>= fun x => (((((Pure.pure l_blend22) >>= fun x => (Pure.pure []) >>= fun xs => Pure.pure (.v x :: xs)) >>= fun as => DL.vals as >>= f1 intOf) >>= fun x => (Pure.pure (.int 2305843009213693907)) >>= fun y => modD x y) >>= fun x => ((Pure.pure (.int 0)) >>= fun x => (Pure.pure []) >>= fun xs => Pure.pure (.v x :: xs)) >>= fun xs => Pure.pure (.v x :: xs)) >>= fun xs => Pure.pure (.v x :: xs)) >>= fun as => DL.vals as >>= mkN))))
def g_l_pot : List Ar → M (List D)
  | [.v l_script0, .v l_at0] => m_l_pot l_script0 l_at0
  | _ => M.no
theorem c_l_pot {as : List Ar} {P : Pot} {ok : List D → Pot → Prop} {ex : Ex → Pot → Prop} (h : out (g_l_pot as) P ok ex) : ∃ l_script0 l_at0, as = [.v l_script0, .v l_at0] := by
  unfold g_l_pot at h; split at h
  · exact ⟨_, _, rfl⟩
  · exact h.elim
theorem ok_l_pot {f : Addr} {fd : FuncData} (Fn : Fun K "_law_pot" "_law_pot" s_l_pot f fd) (b_abs : mg "abs" = none) (b_int : mg "int" = none) (b_len : mg "len" = none) (b_max : mg "max" = none) : FnG P w K mg base 1 f fd ["_law_script", "_law_at"] (spF ⟨mg, K, TT⟩ g_l_pot) := by
  refine fnF_of (k := 0) Fn rfl rfl sc_l_pot (fun as P ok ex h => by obtain ⟨l_script0, l_at0, rfl⟩ := c_l_pot h; rfl) fun cd A fr s H0 G0 ap E as P0 ok ex h bx => ?_
  obtain ⟨l_script0, l_at0, rfl⟩ := c_l_pot h
  have hu64 := hu_64 bx.cx.rm
  have hu65 := hu_65 bx.cx.rm
  have hu102 := hu_102 bx.cx.rm
  exact df_at (ρ' := [.v l_script0, .v l_at0, .un, .un, .un]) rfl (df_cons (ds_set (i := 2) sc_l_pot.nd rfl (Or.inl rfl) (de_if (dt_cmp opr_lt opd_lt (de_var rfl (pv 1)) (de_blt cr_len cd_len (by rfl) b_len (by decide +kernel) (da_cons (de_var rfl (pv 0)) da_nil))) (de_ix rfl (de_var rfl (pv 0)) (de_var rfl (pv 1)) (by intro _ _; rfl)) (de_op opr_add opd_add (de_op opr_mul opd_mul de_int (de_var rfl (pv 1))) de_int))) fun l_cell20 => df_at (ρ' := [.v l_script0, .v l_at0, .v l_cell20, .un, .un]) rfl (df_cons (ds_set (i := 3) sc_l_pot.nd rfl (Or.inl rfl) (de_op op_mod opd_mod (de_ty cr_int cd_int (by rfl) b_int (by decide +kernel) (da_cons (de_blt cr_abs cd_abs (by rfl) b_abs (by decide +kernel) (da_cons (de_var rfl (pv 2)) da_nil)) da_nil)) (de_op op_powX opd_pow (de_op op_powX opd_pow de_int de_int) de_int))) fun l_great21 => df_at (ρ' := [.v l_script0, .v l_at0, .v l_cell20, .v l_great21, .un]) rfl (df_cons (ds_set (i := 4) sc_l_pot.nd rfl (Or.inl rfl) (de_op opr_add opd_add (de_op opr_add opd_add (de_op opr_add opd_add (de_op opr_mul opd_mul (de_op op_mod opd_mod (de_ty cr_int cd_int (by rfl) b_int (by decide +kernel) (da_cons (de_var rfl (pv 3)) da_nil)) de_int) de_int) (de_op opr_mul opd_mul de_int (de_var rfl (pv 1)))) (de_op opr_mul opd_mul de_int (de_ty cr_int cd_int (by rfl) b_int (by decide +kernel) (da_cons (de_cmp opr_lt opd_lt (de_var rfl (pv 2)) de_int) da_nil)))) de_int)) fun l_blend22 => df_at (ρ' := [.v l_script0, .v l_at0, .v l_cell20, .v l_great21, .v l_blend22]) rfl (df_ret (da_cons (de_blt (DL.cr_max rfl) cd_max (by rfl) b_max (by decide +kernel) (da_cons de_int (da_cons (de_op op_sub opd_sub (de_var rfl (pv 3)) (de_op op_powX opd_pow de_int de_int)) da_nil))) (da_cons (de_op op_mod opd_mod (de_ty cr_int cd_int (by rfl) b_int (by decide +kernel) (da_cons (de_var rfl (pv 4)) da_nil)) de_int) (da_cons de_int da_nil)))))))
abbrev s_l_bit : Stmt := topS 34
abbrev N_l_bit : List Str := ["_law_pot_here", "_law_much", "_law_first", "_law_later", "_law_found"]
theorem sc_l_bit : FnScope N_l_bit ["_law_pot_here", "_law_much"] (defScope s_l_bit) := ⟨rfl, rfl, rfl, by decide +kernel, rfl, by decide +kernel, by decide +kernel⟩
def m_l_bit (l_much0 : D) : M D := (thenR (((((Pure.pure (.int 0)) >>= potGet) >>= fun x => (Pure.pure (.int 0)) >>= fun y => gtD x y) >>= boolD) >>= fun x => if x = true then (thenR ((((((Pure.pure (.int 0)) >>= potGet) >>= fun x => (Pure.pure []) >>= fun xs => Pure.pure (.v x :: xs)) >>= fun as => DL.vals as >>= f1 intOf) >>= fun x => (Pure.pure l_much0) >>= fun y => modD x y) >>= fun d => Pure.pure (.nx d)) fun l_found23 => (thenR ((((Pure.pure (.int 0)) >>= potGet) >>= fun x => (Pure.pure l_much0) >>= fun y => fdivD x y) >>= fun d => (Pure.pure (.int 0)) >>= fun y => potSet y d >>= fun _ => Pure.pure (.nx ())) fun _ => ((Pure.pure l_found23) >>= fun d => Pure.pure (.rt d)))) else (Pure.pure (.nx ()))) fun _ => (thenR ((((Pure.pure (.int 2)) >>= potGet) >>= fun x => (Pure.pure (.int 1)) >>= fun y => addD x y) >>= fun d => (Pure.pure (.int 2)) >>= fun y => potSet y d >>= fun _ => Pure.pure (.nx ())) fun _ => (thenR (((((((Pure.pure (.int 1)) >>= potGet) >>= fun x => ((Pure.pure (.int 1000453)) >>= fun x => ((Pure.pure (.int 2)) >>= potGet) >>= fun y => mulD x y) >>= fun y => addD x y) >>= fun x => (Pure.pure []) >>= fun xs => Pure.pure (.v x :: xs)) >>= fun as => DL.vals as >>= f1 intOf) >>= fun x => (Pure.pure (.int 2305843009213693951)) >>= fun y => modD x y) >>= fun d => Pure.pure (.nx d)) fun l_first25 => (thenR ((((((((Pure.pure l_first25) >>= fun x => (Pure.pure l_first25) >>= fun y => mulD x y) >>= fun x => (Pure.pure []) >>= fun xs => Pure.pure (.v x :: xs)) >>= fun as => DL.vals as >>= f1 intOf) >>= fun x => (Pure.pure (.int 2305843009213693921)) >>= fun y => modD x y) >>= fun x => (Pure.pure l_first25) >>= fun y => mulD x y) >>= fun x => ((Pure.pure (.int 9103)) >>= fun x => ((Pure.pure (.int 2)) >>= potGet) >>= fun y => mulD x y) >>= fun y => addD x y) >>= fun d => Pure.pure (.nx d)) fun l_later26 => (((((((((Pure.pure l_later26) >>= fun x => (Pure.pure []) >>= fun xs => Pure.pure (.v x :: xs)) >>= fun as => DL.vals as >>= f1 intOf) >>= fun x => (Pure.pure (.int 2305843009213693907)) >>= fun y => modD x y) >>= fun x => (Pure.pure (.int 16384)) >>= fun y => fdivD x y) >>= fun x => (Pure.pure []) >>= fun xs => Pure.pure (.v x :: xs)) >>= fun as => DL.vals as >>= f1 intOf) >>= fun x => (Pure.pure l_much0) >>= fun y => modD x y) >>= fun d => Pure.pure (.rt d)))))) >>= doneF (α := Unit)
def g_l_bit : List Ar → M D
  | [.p, .v l_much0] => m_l_bit l_much0
  | _ => M.no
theorem c_l_bit {as : List Ar} {P : Pot} {ok : D → Pot → Prop} {ex : Ex → Pot → Prop} (h : out (g_l_bit as) P ok ex) : ∃ l_much0, as = [.p, .v l_much0] := by
  unfold g_l_bit at h; split at h
  · exact ⟨_, rfl⟩
  · exact h.elim
theorem ok_l_bit {f : Addr} {fd : FuncData} (Fn : Fun K "_law_bit" "_law_bit" s_l_bit f fd) (b_int : mg "int" = none) : FnG P w K mg base 1 f fd ["_law_pot_here", "_law_much"] (spD ⟨mg, K, TT⟩ g_l_bit) := by
  refine fnG_of (k := 0) Fn rfl rfl sc_l_bit (fun as P ok ex h => by obtain ⟨l_much0, rfl⟩ := c_l_bit h; rfl) fun cd A fr s H0 G0 ap E as P0 ok ex h bx => ?_
  obtain ⟨l_much0, rfl⟩ := c_l_bit h
  have hu64 := hu_64 bx.cx.rm
  have hu65 := hu_65 bx.cx.rm
  have hu102 := hu_102 bx.cx.rm
  exact ⟨Unit, (fun (a : Unit) => [.p, .un, .un, .un, .un]), _, ds_at (ρ' := [.p, .v l_much0, .un, .un, .un]) rfl (ds_cons (ds_if (E := (fun (a : Unit) => [.p, .v l_much0, .un, .un, .un])) (dt_cmp opr_gt opd_gt (de_potIx rfl rfl (pv 0) de_int (by intro _ _; rfl)) de_int) (ds_cons (ds_set (i := 4) sc_l_bit.nd rfl (Or.inl rfl) (de_op op_mod opd_mod (de_ty cr_int cd_int (by rfl) b_int (by decide +kernel) (da_cons (de_potIx rfl rfl (pv 0) de_int (by intro _ _; rfl)) da_nil)) (de_var rfl (pv 1)))) fun l_found23 => ds_at (ρ' := [.p, .v l_much0, .un, .un, .v l_found23]) rfl (ds_cons (ds_potSet (E := (fun (a : Unit) => [.p, .v l_much0, .un, .un, .v l_found23])) (a := ()) rfl (pv 0) de_int (de_op op_fdivW opd_fdiv (de_potIx rfl rfl (pv 0) de_int (by intro _ _; rfl)) (de_var rfl (pv 1))) rfl) fun _ => ds_at (ρ' := [.p, .v l_much0, .un, .un, .v l_found23]) rfl (ds_one (ds_ret (de_var rfl (pv 4)))))) (ds_end (a := ()) (.k (.k (.k (.k (.k FogL.n))))))) fun _ => ds_at (ρ' := [.p, .v l_much0, .un, .un, .un]) rfl (ds_cons (ds_potSet (E := (fun (a : Unit) => [.p, .v l_much0, .un, .un, .un])) (a := ()) rfl (pv 0) de_int (de_op opr_add opd_add (de_potIx rfl rfl (pv 0) de_int (by intro _ _; rfl)) de_int) rfl) fun _ => ds_at (ρ' := [.p, .v l_much0, .un, .un, .un]) rfl (ds_cons (ds_set (i := 2) sc_l_bit.nd rfl (Or.inl rfl) (de_op op_mod opd_mod (de_ty cr_int cd_int (by rfl) b_int (by decide +kernel) (da_cons (de_op opr_add opd_add (de_potIx rfl rfl (pv 0) de_int (by intro _ _; rfl)) (de_op opr_mul opd_mul de_int (de_potIx rfl rfl (pv 0) de_int (by intro _ _; rfl)))) da_nil)) de_int)) fun l_first25 => ds_at (ρ' := [.p, .v l_much0, .v l_first25, .un, .un]) rfl (ds_cons (ds_set (i := 3) sc_l_bit.nd rfl (Or.inl rfl) (de_op opr_add opd_add (de_op opr_mul opd_mul (de_op op_mod opd_mod (de_ty cr_int cd_int (by rfl) b_int (by decide +kernel) (da_cons (de_op opr_mul opd_mul (de_var rfl (pv 2)) (de_var rfl (pv 2))) da_nil)) de_int) (de_var rfl (pv 2))) (de_op opr_mul opd_mul de_int (de_potIx rfl rfl (pv 0) de_int (by intro _ _; rfl))))) fun l_later26 => ds_at (ρ' := [.p, .v l_much0, .v l_first25, .v l_later26, .un]) rfl (ds_one (ds_ret (de_op op_mod opd_mod (de_ty cr_int cd_int (by rfl) b_int (by decide +kernel) (da_cons (de_op op_fdivW opd_fdiv (de_op op_mod opd_mod (de_ty cr_int cd_int (by rfl) b_int (by decide +kernel) (da_cons (de_var rfl (pv 3)) da_nil)) de_int) de_int) da_nil)) (de_var rfl (pv 1))))))))), rfl⟩
abbrev s_l_pick : Stmt := topS 35
abbrev N_l_pick : List Str := ["_law_pot_here", "_law_items"]
theorem sc_l_pick : FnScope N_l_pick ["_law_pot_here", "_law_items"] (defScope s_l_pick) := ⟨rfl, rfl, rfl, by decide +kernel, rfl, by decide +kernel, by decide +kernel⟩
def m_l_pick (l_items0 : D) : M D := (((Pure.pure l_items0) >>= fun x => ((((((Pure.pure l_items0) >>= fun x => (Pure.pure []) >>= fun xs => Pure.pure (.v x :: xs)) >>= fun as => DL.vals as >>= f1 lenD) >>= fun x => (Pure.pure []) >>= fun xs => Pure.pure (.v x :: xs)) >>= fun xs => Pure.pure (.p :: xs)) >>= g_l_bit) >>= fun y => ixD x y) >>= fun d => Pure.pure (.rt d)) >>= doneF (α := Unit)
def g_l_pick : List Ar → M D
  | [.p, .v l_items0] => m_l_pick l_items0
  | _ => M.no
theorem c_l_pick {as : List Ar} {P : Pot} {ok : D → Pot → Prop} {ex : Ex → Pot → Prop} (h : out (g_l_pick as) P ok ex) : ∃ l_items0, as = [.p, .v l_items0] := by
  unfold g_l_pick at h; split at h
  · exact ⟨_, rfl⟩
  · exact h.elim
theorem ok_l_pick {f : Addr} {fd : FuncData} (Fn : Fun K "_law_pick" "_law_pick" s_l_pick f fd) (b_len : mg "len" = none) (d_l_bit : Cal P w K mg base 1 "_law_bit" (spD ⟨mg, K, TT⟩ g_l_bit)) : FnG P w K mg base 2 f fd ["_law_pot_here", "_law_items"] (spD ⟨mg, K, TT⟩ g_l_pick) := by
  refine fnG_of (k := 1) Fn rfl rfl sc_l_pick (fun as P ok ex h => by obtain ⟨l_items0, rfl⟩ := c_l_pick h; rfl) fun cd A fr s H0 G0 ap E as P0 ok ex h bx => ?_
  obtain ⟨l_items0, rfl⟩ := c_l_pick h
  have hu64 := hu_64 bx.cx.rm
  have hu65 := hu_65 bx.cx.rm
  have hu102 := hu_102 bx.cx.rm
  exact ⟨Unit, (fun (a : Unit) => [.p, .un]), _, ds_at (ρ' := [.p, .v l_items0]) rfl (ds_one (ds_ret (de_ix rfl (de_var rfl (pv 1)) (de_callC d_l_bit ⟨rfl, rfl, bx.cx.ga, bx.cx.rm⟩ (by omega) bx.tk (by rfl) (da_pot rfl (pv 0) (da_cons (de_blt cr_len cd_len (by rfl) b_len (by decide +kernel) (da_cons (de_var rfl (pv 1)) da_nil)) da_nil))) (by intro _ _; rfl)))), rfl⟩
abbrev s_l_dealt : Stmt := topS 36
abbrev N_l_dealt : List Str := ["_law_pot_here", "_law_items", "_law_waits", "_law_turn"]
theorem sc_l_dealt : FnScope N_l_dealt ["_law_pot_here", "_law_items"] (defScope s_l_dealt) := ⟨rfl, rfl, rfl, by decide +kernel, rfl, by decide +kernel, by decide +kernel⟩
def m_l_dealt (l_items0 : D) : M D := (thenR (((Pure.pure l_items0) >>= itemsD) >>= fun ds => Pure.pure (.nx ds)) fun l_waits27 => (((((((Pure.pure l_items0) >>= fun x => (Pure.pure []) >>= fun xs => Pure.pure (.v x :: xs)) >>= fun as => DL.vals as >>= f1 lenD) >>= fun x => (Pure.pure []) >>= fun xs => Pure.pure (.v x :: xs)) >>= rng1) >>= fun ds => noEx (compO (fun ws29 l_turn28 => ((((Pure.pure (.int (ws29.length : Nat))) >>= fun x => (Pure.pure []) >>= fun xs => Pure.pure (.v x :: xs)) >>= fun xs => Pure.pure (.p :: xs)) >>= g_l_bit) >>= popD ws29) l_waits27 ds) >>= mkL) >>= fun d => Pure.pure (.rt d))) >>= doneF (α := Unit)
def g_l_dealt : List Ar → M D
  | [.p, .v l_items0] => m_l_dealt l_items0
  | _ => M.no
theorem c_l_dealt {as : List Ar} {P : Pot} {ok : D → Pot → Prop} {ex : Ex → Pot → Prop} (h : out (g_l_dealt as) P ok ex) : ∃ l_items0, as = [.p, .v l_items0] := by
  unfold g_l_dealt at h; split at h
  · exact ⟨_, rfl⟩
  · exact h.elim
theorem ok_l_dealt {f : Addr} {fd : FuncData} (Fn : Fun K "_law_dealt" "_law_dealt" s_l_dealt f fd) (b_len : mg "len" = none) (b_list : mg "list" = none) (b_range : mg "range" = none) (d_l_bit : Cal P w K mg base 1 "_law_bit" (spD ⟨mg, K, TT⟩ g_l_bit)) : FnG P w K mg base 2 f fd ["_law_pot_here", "_law_items"] (spD ⟨mg, K, TT⟩ g_l_dealt) := by
  refine fnG_of (k := 1) Fn rfl rfl sc_l_dealt (fun as P ok ex h => by obtain ⟨l_items0, rfl⟩ := c_l_dealt h; rfl) fun cd A fr s H0 G0 ap E as P0 ok ex h bx => ?_
  obtain ⟨l_items0, rfl⟩ := c_l_dealt h
  have hu64 := hu_64 bx.cx.rm
  have hu65 := hu_65 bx.cx.rm
  have hu102 := hu_102 bx.cx.rm
  exact ⟨Unit, (fun (a : Unit) => [.p, .un, .un, .un]), _, ds_at (ρ' := [.p, .v l_items0, .un, .un]) rfl (ds_cons (ds_ownList (i := 2) rfl sc_l_dealt.nd rfl (Or.inr rfl) (by rfl) b_list (by decide +kernel) (de_var rfl (pv 1))) fun l_waits27 => ds_at (ρ' := [.p, .v l_items0, .o (.l l_waits27), .un]) rfl (ds_one (ds_retLcO (own := [("_law_turn", 3)]) (i := 2) (g := gName 3) (t := fun ρ d => some (ρ.set 3 (.v d))) (me := (fun ws29 l_turn28 => ((((Pure.pure (.int (ws29.length : Nat))) >>= fun x => (Pure.pure []) >>= fun xs => Pure.pure (.v x :: xs)) >>= fun xs => Pure.pure (.p :: xs)) >>= g_l_bit) >>= popD ws29)) rfl (by decide) rfl sc_l_dealt.nd (blkOk_by (N := N_l_dealt) (sc := defScope s_l_dealt) (by decide +kernel)) (di_rng1 (by rfl) b_range (da_cons (de_blt cr_len cd_len (by rfl) b_len (by decide +kernel) (da_cons (de_var rfl (pv 1)) da_nil)) da_nil)) (tgt_name (by simp)) (fun ρ d ws h => nomatch h) (fun ρ d ρ' e => by cases e; exact List.getElem?_set_ne (by decide)) (fun _ _ _ _ _ => pg_name (i := 3) sc_l_dealt.nd rfl (Or.inl rfl)) (fun _ _ _ _ _ => pe_eltO fun F ws29 l_turn28 ρ' e => by cases e; exact eo_at (ρ' := [.p, .v l_items0, .o (.l ws29), .v l_turn28]) rfl (de_popO rfl (pv 2) (de_callC d_l_bit ⟨rfl, rfl, bx.cx.ga, bx.cx.rm⟩ (by omega) takes0 (by rfl) (da_pot rfl (pv 0) (da_cons (de_lenO rfl rfl (pv 2) (by rfl) b_len (by decide +kernel)) da_nil)))))))), rfl⟩
abbrev s_l_tree : Stmt := topS 38
abbrev N_l_tree : List Str := ["_law_pot_here", "_law_words", "_law_deep", "_law_lot"]
theorem sc_l_tree : FnScope N_l_tree ["_law_pot_here", "_law_words", "_law_deep"] (defScope s_l_tree) := ⟨rfl, rfl, rfl, by decide +kernel, rfl, by decide +kernel, by decide +kernel⟩
def m_l_tree (G_l_tree : List Ar → M D) (l_words0 : D) (l_deep0 : D) : M D := (thenR (((((Pure.pure (.int 8)) >>= fun x => (Pure.pure []) >>= fun xs => Pure.pure (.v x :: xs)) >>= fun xs => Pure.pure (.p :: xs)) >>= g_l_bit) >>= fun d => Pure.pure (.nx d)) fun l_lot30 => (thenR (((((Pure.pure l_deep0) >>= fun x => (Pure.pure (.int 2)) >>= fun y => ltD x y) >>= boolD) >>= fun x => if x = true then Pure.pure true else (((Pure.pure l_lot30) >>= fun x => (Pure.pure (.int 2)) >>= fun y => ltD x y) >>= boolD)) >>= fun x => if x = true then (((((Pure.pure l_lot30) >>= fun x => (Pure.pure (.int 0)) >>= fun y => gtD x y) >>= boolD) >>= fun x => if x = true then (((Pure.pure (.str "name")) >>= fun x => (((((Pure.pure l_words0) >>= fun x => (Pure.pure []) >>= fun xs => Pure.pure (.v x :: xs)) >>= fun xs => Pure.pure (.p :: xs)) >>= g_l_pick) >>= fun x => (Pure.pure []) >>= fun xs => Pure.pure (.v x :: xs)) >>= fun xs => Pure.pure (.v x :: xs)) >>= fun as => DL.vals as >>= mkT) else ((((((((Pure.pure (.str "all")) >>= fun x => (Pure.pure []) >>= fun xs => Pure.pure (.v x :: xs)) >>= fun as => DL.vals as >>= mkT) >>= fun x => ((((Pure.pure (.str "none")) >>= fun x => (Pure.pure []) >>= fun xs => Pure.pure (.v x :: xs)) >>= fun as => DL.vals as >>= mkT) >>= fun x => ((((Pure.pure (.str "name")) >>= fun x => (((Pure.pure l_words0) >>= fun x => (Pure.pure (.int 0)) >>= fun y => ixD x y) >>= fun x => (Pure.pure []) >>= fun xs => Pure.pure (.v x :: xs)) >>= fun xs => Pure.pure (.v x :: xs)) >>= fun as => DL.vals as >>= mkT) >>= fun x => (Pure.pure []) >>= fun xs => Pure.pure (.v x :: xs)) >>= fun xs => Pure.pure (.v x :: xs)) >>= fun xs => Pure.pure (.v x :: xs)) >>= fun as => DL.vals as >>= mkL) >>= fun x => (Pure.pure []) >>= fun xs => Pure.pure (.v x :: xs)) >>= fun xs => Pure.pure (.p :: xs)) >>= g_l_pick)) >>= fun d => Pure.pure (.rt d)) else (Pure.pure (.nx ()))) fun _ => (thenR ((((Pure.pure l_lot30) >>= fun x => (Pure.pure (.int 4)) >>= fun y => ltD x y) >>= boolD) >>= fun x => if x = true then ((((Pure.pure (.str "not")) >>= fun x => (((((Pure.pure l_words0) >>= fun x => (((Pure.pure l_deep0) >>= fun x => (Pure.pure (.int 1)) >>= fun y => subD x y) >>= fun x => (Pure.pure []) >>= fun xs => Pure.pure (.v x :: xs)) >>= fun xs => Pure.pure (.v x :: xs)) >>= fun xs => Pure.pure (.p :: xs)) >>= G_l_tree) >>= fun x => (Pure.pure []) >>= fun xs => Pure.pure (.v x :: xs)) >>= fun xs => Pure.pure (.v x :: xs)) >>= fun as => DL.vals as >>= mkT) >>= fun d => Pure.pure (.rt d)) else (Pure.pure (.nx ()))) fun _ => (((((((Pure.pure l_lot30) >>= fun x => (Pure.pure (.int 6)) >>= fun y => ltD x y) >>= boolD) >>= fun x => if x = true then (Pure.pure (.str "and")) else (Pure.pure (.str "or"))) >>= fun x => (((((Pure.pure l_words0) >>= fun x => (((Pure.pure l_deep0) >>= fun x => (Pure.pure (.int 1)) >>= fun y => subD x y) >>= fun x => (Pure.pure []) >>= fun xs => Pure.pure (.v x :: xs)) >>= fun xs => Pure.pure (.v x :: xs)) >>= fun xs => Pure.pure (.p :: xs)) >>= G_l_tree) >>= fun x => (((((Pure.pure l_words0) >>= fun x => (((Pure.pure l_deep0) >>= fun x => (Pure.pure (.int 1)) >>= fun y => subD x y) >>= fun x => (Pure.pure []) >>= fun xs => Pure.pure (.v x :: xs)) >>= fun xs => Pure.pure (.v x :: xs)) >>= fun xs => Pure.pure (.p :: xs)) >>= G_l_tree) >>= fun x => (Pure.pure []) >>= fun xs => Pure.pure (.v x :: xs)) >>= fun xs => Pure.pure (.v x :: xs)) >>= fun xs => Pure.pure (.v x :: xs)) >>= fun as => DL.vals as >>= mkT) >>= fun d => Pure.pure (.rt d))))) >>= doneF (α := Unit)
def g_l_tree : Nat → List Ar → M D
  | n + 1, [.p, .v l_words0, .v l_deep0] => m_l_tree (g_l_tree n) l_words0 l_deep0
  | _, _ => M.no
theorem c_l_tree {n : Nat} {as : List Ar} {P : Pot} {ok : D → Pot → Prop} {ex : Ex → Pot → Prop} (h : out ((g_l_tree (n + 1)) as) P ok ex) : ∃ l_words0 l_deep0, as = [.p, .v l_words0, .v l_deep0] := by
  unfold g_l_tree at h; split at h
  · rename_i z; exact ⟨_, _, rfl⟩
  · exact h.elim
theorem ok_l_tree {f : Addr} {fd : FuncData} (Fn : Fun K "_law_tree" "_law_tree" s_l_tree f fd) (d_l_bit : Cal P w K mg base 1 "_law_bit" (spD ⟨mg, K, TT⟩ g_l_bit)) (d_l_pick : Cal P w K mg base 2 "_law_pick" (spD ⟨mg, K, TT⟩ g_l_pick)) (hm_ : mg "_law_tree" = some (.ref f)) (hk_ : PySem.W.keepIn K (.ref f) = true) (hb_ : Binds K fd ["_law_pot_here", "_law_words", "_law_deep"] []) : ∀ n, FnG P w K mg base (2 + 1 * n + 1) f fd ["_law_pot_here", "_law_words", "_law_deep"] (spD ⟨mg, K, TT⟩ (g_l_tree n)) := by
  intro n
  induction n with
  | zero => exact fnG_of (k := 2) Fn rfl rfl sc_l_tree (fun as P ok ex h => (out_no h).elim) fun cd A fr s H0 G0 ap E as P0 ok ex h bx => (out_no h).elim
  | succ n ih =>
    have d_l_tree : Cal P w K mg base (2 + 1 * n + 1) "_law_tree" (spD ⟨mg, K, TT⟩ (g_l_tree n)) := ⟨⟨f, fd, _, ih, hm_, hk_, hb_⟩⟩
    have ee : 2 + 1 * (n + 1) + 1 = (2 + 1 * n + 1) + 1 := by omega
    rw [ee]
    refine fnG_of (k := 2 + 1 * n + 1) Fn rfl rfl sc_l_tree (fun as P ok ex h => by obtain ⟨l_words0, l_deep0, rfl⟩ := c_l_tree h; rfl) fun cd A fr s H0 G0 ap E as P0 ok ex h bx => ?_
    obtain ⟨l_words0, l_deep0, rfl⟩ := c_l_tree h
    have hu64 := hu_64 bx.cx.rm
    have hu65 := hu_65 bx.cx.rm
    have hu102 := hu_102 bx.cx.rm
    exact ⟨Unit, (fun (a : Unit) => [.p, .un, .un, .un]), _, ds_at (ρ' := [.p, .v l_words0, .v l_deep0, .un]) rfl (ds_cons (ds_set (i := 3) sc_l_tree.nd rfl (Or.inl rfl) (de_callC d_l_bit ⟨rfl, rfl, bx.cx.ga, bx.cx.rm⟩ (by omega) bx.tk (by rfl) (da_pot rfl (pv 0) (da_cons de_int da_nil)))) fun l_lot30 => ds_at (ρ' := [.p, .v l_words0, .v l_deep0, .v l_lot30]) rfl (ds_cons (ds_if (E := (fun (a : Unit) => [.p, .v l_words0, .v l_deep0, .v l_lot30])) (PW.pt (dw_or (dt_cmp opr_lt opd_lt (de_var rfl (pv 2)) de_int) (dw_or1 (dt_cmp opr_lt opd_lt (de_var rfl (pv 3)) de_int)))) (ds_one (ds_ret (de_if (dt_cmp opr_gt opd_gt (de_var rfl (pv 3)) de_int) (de_tup (da_cons de_str (da_cons (de_callC d_l_pick ⟨rfl, rfl, bx.cx.ga, bx.cx.rm⟩ (by omega) bx.tk (by rfl) (da_pot rfl (pv 0) (da_cons (de_var rfl (pv 1)) da_nil))) da_nil))) (de_callC d_l_pick ⟨rfl, rfl, bx.cx.ga, bx.cx.rm⟩ (by omega) bx.tk (by rfl) (da_pot rfl (pv 0) (da_cons (de_lst (da_cons (de_tup (da_cons de_str da_nil)) (da_cons (de_tup (da_cons de_str da_nil)) (da_cons (de_tup (da_cons de_str (da_cons (de_ix rfl (de_var rfl (pv 1)) de_int (by intro _ _; rfl)) da_nil))) da_nil)))) da_nil)))))) (ds_end (a := ()) (.k (.k (.k (.k FogL.n)))))) fun _ => ds_at (ρ' := [.p, .v l_words0, .v l_deep0, .v l_lot30]) rfl (ds_cons (ds_if (E := (fun (a : Unit) => [.p, .v l_words0, .v l_deep0, .v l_lot30])) (dt_cmp opr_lt opd_lt (de_var rfl (pv 3)) de_int) (ds_one (ds_ret (de_tup (da_cons de_str (da_cons (de_callC d_l_tree ⟨rfl, rfl, bx.cx.ga, bx.cx.rm⟩ (by omega) bx.tk (by rfl) (da_pot rfl (pv 0) (da_cons (de_var rfl (pv 1)) (da_cons (de_op op_sub opd_sub (de_var rfl (pv 2)) de_int) da_nil)))) da_nil))))) (ds_end (a := ()) (.k (.k (.k (.k FogL.n)))))) fun _ => ds_at (ρ' := [.p, .v l_words0, .v l_deep0, .v l_lot30]) rfl (ds_one (ds_ret (de_tup (da_cons (de_if (dt_cmp opr_lt opd_lt (de_var rfl (pv 3)) de_int) de_str de_str) (da_cons (de_callC d_l_tree ⟨rfl, rfl, bx.cx.ga, bx.cx.rm⟩ (by omega) bx.tk (by rfl) (da_pot rfl (pv 0) (da_cons (de_var rfl (pv 1)) (da_cons (de_op op_sub opd_sub (de_var rfl (pv 2)) de_int) da_nil)))) (da_cons (de_callC d_l_tree ⟨rfl, rfl, bx.cx.ga, bx.cx.rm⟩ (by omega) bx.tk (by rfl) (da_pot rfl (pv 0) (da_cons (de_var rfl (pv 1)) (da_cons (de_op op_sub opd_sub (de_var rfl (pv 2)) de_int) da_nil)))) da_nil))))))))), rfl⟩
abbrev s_l_words_in : Stmt := topS 39
abbrev N_l_words_in : List Str := ["_law_tree_here", "_law_found", "_law_part"]
theorem sc_l_words_in : FnScope N_l_words_in ["_law_tree_here"] (defScope s_l_words_in) := ⟨rfl, rfl, rfl, by decide +kernel, rfl, by decide +kernel, by decide +kernel⟩
def m_l_words_in (G_l_words_in : List Ar → M D) (l_tree_here0 : D) : M D := (thenR (((((Pure.pure l_tree_here0) >>= fun x => (Pure.pure (.int 0)) >>= fun y => ixD x y) >>= fun x => (Pure.pure (.str "name")) >>= fun y => eqD x y) >>= boolD) >>= fun x => if x = true then (((((Pure.pure l_tree_here0) >>= fun x => (Pure.pure (.int 1)) >>= fun y => ixD x y) >>= fun x => (Pure.pure []) >>= fun xs => Pure.pure (.v x :: xs)) >>= fun as => DL.vals as >>= mkT) >>= fun d => Pure.pure (.rt d)) else (Pure.pure (.nx ()))) fun _ => (thenR (((Pure.pure []) >>= fun as => DL.vals as >>= mkL) >>= fun d => Pure.pure (.nx d)) fun l_found34 => (thenR ((((Pure.pure l_tree_here0) >>= fun x => ((Pure.pure (.int 1)) >>= partD) >>= fun l => (Pure.pure none) >>= fun u => sliceD x l u) >>= iterA) >>= fun ds => forF (fun (a35 : D) l_part36 => (thenR (((Pure.pure a35) >>= fun x => (((((Pure.pure l_part36) >>= fun x => (Pure.pure []) >>= fun xs => Pure.pure (.v x :: xs)) >>= G_l_words_in) >>= fun x => (Pure.pure []) >>= fun xs => Pure.pure (.v x :: xs)) >>= fun as => DL.vals as >>= f1 listE) >>= fun y => addD x y) >>= fun d => Pure.pure (.nx d)) fun l_found37 => (Pure.pure (.nx l_found37)))) ds l_found34) fun a38 => ((((((Pure.pure a38) >>= fun x => (Pure.pure []) >>= fun xs => Pure.pure (.v x :: xs)) >>= fun as => DL.vals as >>= f1 sortSetX) >>= fun x => (Pure.pure []) >>= fun xs => Pure.pure (.v x :: xs)) >>= fun as => DL.vals as >>= f1 tupleD) >>= fun d => Pure.pure (.rt d))))) >>= doneF (α := Unit)
def g_l_words_in : Nat → List Ar → M D
  | n + 1, [.v l_tree_here0] => m_l_words_in (g_l_words_in n) l_tree_here0
  | _, _ => M.no
theorem c_l_words_in {n : Nat} {as : List Ar} {P : Pot} {ok : D → Pot → Prop} {ex : Ex → Pot → Prop} (h : out ((g_l_words_in (n + 1)) as) P ok ex) : ∃ l_tree_here0, as = [.v l_tree_here0] := by
  unfold g_l_words_in at h; split at h
  · rename_i z; exact ⟨_, rfl⟩
  · exact h.elim
theorem ok_l_words_in {f : Addr} {fd : FuncData} (Fn : Fun K "_law_words_in" "_law_words_in" s_l_words_in f fd) (b_list : mg "list" = none) (b_set : mg "set" = none) (b_sorted : mg "sorted" = none) (b_tuple : mg "tuple" = none) (hm_ : mg "_law_words_in" = some (.ref f)) (hk_ : PySem.W.keepIn K (.ref f) = true) (hb_ : Binds K fd ["_law_tree_here"] []) : ∀ n, FnG P w K mg base (0 + 1 * n + 1) f fd ["_law_tree_here"] (spD ⟨mg, K, TT⟩ (g_l_words_in n)) := by
  intro n
  induction n with
  | zero => exact fnG_of (k := 0) Fn rfl rfl sc_l_words_in (fun as P ok ex h => (out_no h).elim) fun cd A fr s H0 G0 ap E as P0 ok ex h bx => (out_no h).elim
  | succ n ih =>
    have d_l_words_in : Cal P w K mg base (0 + 1 * n + 1) "_law_words_in" (spD ⟨mg, K, TT⟩ (g_l_words_in n)) := ⟨⟨f, fd, _, ih, hm_, hk_, hb_⟩⟩
    have ee : 0 + 1 * (n + 1) + 1 = (0 + 1 * n + 1) + 1 := by omega
    rw [ee]
    refine fnG_of (k := 0 + 1 * n + 1) Fn rfl rfl sc_l_words_in (fun as P ok ex h => by obtain ⟨l_tree_here0, rfl⟩ := c_l_words_in h; rfl) fun cd A fr s H0 G0 ap E as P0 ok ex h bx => ?_
    obtain ⟨l_tree_here0, rfl⟩ := c_l_words_in h
    have hu64 := hu_64 bx.cx.rm
    have hu65 := hu_65 bx.cx.rm
    have hu102 := hu_102 bx.cx.rm
    exact ⟨Unit, (fun (a : Unit) => [.un, .un, .un]), _, ds_at (ρ' := [.v l_tree_here0, .un, .un]) rfl (ds_cons (ds_if (E := (fun (a : Unit) => [.v l_tree_here0, .un, .un])) (dt_cmp (op_eqD hu64) opd_eq (de_ix rfl (de_var rfl (pv 0)) de_int (by intro _ _; rfl)) de_str) (ds_one (ds_ret (de_tup (da_cons (de_ix rfl (de_var rfl (pv 0)) de_int (by intro _ _; rfl)) da_nil)))) (ds_end (a := ()) (.k (.k (.k FogL.n))))) fun _ => ds_at (ρ' := [.v l_tree_here0, .un, .un]) rfl (ds_cons (ds_set (i := 1) sc_l_words_in.nd rfl (Or.inl rfl) (de_lst da_nil)) fun l_found34 => ds_at (ρ' := [.v l_tree_here0, .v l_found34, .un]) rfl (ds_cons (ds_for (E := (fun (a : D) => [.v l_tree_here0, .v a, .un])) (a₀ := l_found34) (t := fun (a : D) d => some (((fun (a : D) => [.v l_tree_here0, .v a, .un]) a).set 2 (.v d))) bx.own rfl (Rel.fogL (.k (.k (.k FogL.n)))) (di_any rfl (de_slice rfl (de_var rfl (pv 0)) (do_some de_int) do_none)) (pg_ex fun a => dg_name (i := 2) sc_l_words_in.nd rfl (Or.inl rfl)) (fun a d h => nomatch h) (pss_for fun a35 l_part36 ρ' e => by cases e; exact ds_at (ρ' := [.v l_tree_here0, .v a35, .v l_part36]) rfl (ds_cons (ds_set (i := 1) sc_l_words_in.nd rfl (Or.inl rfl) (de_op opr_add opd_add (de_var rfl (pv 1)) (de_ty (cr_listE rfl) cd_listE (by rfl) b_list (by decide +kernel) (da_cons (de_callC d_l_words_in ⟨rfl, rfl, bx.cx.ga, bx.cx.rm⟩ (by omega) bx.tk (by rfl) (da_cons (de_var rfl (pv 2)) da_nil)) da_nil)))) fun l_found37 => ds_at (ρ' := [.v l_tree_here0, .v l_found37, .v l_part36]) rfl (ds_end (a := l_found37) (.k (.k (.u FogL.n))))))) fun a38 => ds_at (ρ' := [.v l_tree_here0, .v a38, .un]) rfl (ds_one (ds_ret (de_ty cr_tuple cd_tuple (by rfl) b_tuple (by decide +kernel) (da_cons (de_sortSetX rfl rfl hu64 (by rfl) b_sorted (by decide +kernel) (by rfl) b_set (by decide +kernel) (da_cons (de_var rfl (pv 1)) da_nil)) da_nil))))))), rfl⟩
abbrev s_l_is_word : Stmt := topS 40
abbrev N_l_is_word : List Str := ["_law_value", "_law_sign"]
theorem sc_l_is_word : FnScope N_l_is_word ["_law_value"] (defScope s_l_is_word) := ⟨rfl, rfl, rfl, by decide +kernel, rfl, by decide +kernel, by decide +kernel⟩
def m_l_is_word (l_value0 : D) : M D := (thenR ((((((Pure.pure l_value0) >>= isiD "str") >>= boolD) >>= fun b => Pure.pure (!b)) >>= fun x => if x = true then Pure.pure true else ((((((Pure.pure l_value0) >>= fun x => (Pure.pure []) >>= fun xs => Pure.pure (.v x :: xs)) >>= fun as => DL.vals as >>= f1 lenD) >>= fun x => (Pure.pure (.int 0)) >>= fun y => eqX x y) >>= boolD) >>= fun x => if x = true then Pure.pure true else ((((((Pure.pure l_value0) >>= fun x => (Pure.pure []) >>= fun xs => Pure.pure (.v x :: xs)) >>= fun as => DL.vals as >>= f1 lenD) >>= fun x => (Pure.pure (.int 8)) >>= fun y => gtD x y) >>= boolD) >>= fun x => if x = true then Pure.pure true else (((Pure.pure l_value0) >>= fun x => (((Pure.pure (.str "all")) >>= fun x => ((Pure.pure (.str "and")) >>= fun x => ((Pure.pure (.str "none")) >>= fun x => ((Pure.pure (.str "not")) >>= fun x => ((Pure.pure (.str "or")) >>= fun x => (Pure.pure []) >>= fun xs => Pure.pure (.v x :: xs)) >>= fun xs => Pure.pure (.v x :: xs)) >>= fun xs => Pure.pure (.v x :: xs)) >>= fun xs => Pure.pure (.v x :: xs)) >>= fun xs => Pure.pure (.v x :: xs)) >>= fun as => DL.vals as >>= mkT) >>= fun y => (inD false) x y) >>= boolD)))) >>= fun x => if x = true then ((Pure.pure (.bl false)) >>= fun d => Pure.pure (.rt d)) else (Pure.pure (.nx ()))) fun _ => (((((Pure.pure l_value0) >>= iterA) >>= fun ds => noEx (compF (fun l_sign40 => (((Pure.pure l_sign40) >>= fun x => (Pure.pure (.str "abcdefghijklmnopqrstuvwxyz")) >>= fun y => (inD true) x y) >>= boolD)) (fun l_sign40 => (Pure.pure l_sign40)) ds) >>= mkL) >>= fun x => ((Pure.pure []) >>= fun as => DL.vals as >>= mkL) >>= fun y => eqX x y) >>= fun d => Pure.pure (.rt d))) >>= doneF (α := Unit)
def g_l_is_word : List Ar → M D
  | [.v l_value0] => m_l_is_word l_value0
  | _ => M.no
theorem c_l_is_word {as : List Ar} {P : Pot} {ok : D → Pot → Prop} {ex : Ex → Pot → Prop} (h : out (g_l_is_word as) P ok ex) : ∃ l_value0, as = [.v l_value0] := by
  unfold g_l_is_word at h; split at h
  · exact ⟨_, rfl⟩
  · exact h.elim
theorem ok_l_is_word {f : Addr} {fd : FuncData} (Fn : Fun K "_law_is_word" "_law_is_word" s_l_is_word f fd) (b_isinstance : mg "isinstance" = none) (b_len : mg "len" = none) (b_str : mg "str" = none) : FnG P w K mg base 1 f fd ["_law_value"] (spD ⟨mg, K, TT⟩ g_l_is_word) := by
  refine fnG_of (k := 0) Fn rfl rfl sc_l_is_word (fun as P ok ex h => by obtain ⟨l_value0, rfl⟩ := c_l_is_word h; rfl) fun cd A fr s H0 G0 ap E as P0 ok ex h bx => ?_
  obtain ⟨l_value0, rfl⟩ := c_l_is_word h
  have hu64 := hu_64 bx.cx.rm
  have hu65 := hu_65 bx.cx.rm
  have hu102 := hu_102 bx.cx.rm
  exact ⟨Unit, (fun (a : Unit) => [.un, .un]), _, ds_at (ρ' := [.v l_value0, .un]) rfl (ds_cons (ds_if (E := (fun (a : Unit) => [.v l_value0, .un])) (PW.pt (dw_or (dt_not (dt_val (de_isi (T := "str") rfl (by decide) (by rfl) b_isinstance (de_var rfl (pv 0)) (by rfl) b_str (by decide +kernel)))) (dw_or (dt_cmp (opr_eqX hu64) opd_eqX (de_blt cr_len cd_len (by rfl) b_len (by decide +kernel) (da_cons (de_var rfl (pv 0)) da_nil)) de_int) (dw_or (dt_cmp opr_gt opd_gt (de_blt cr_len cd_len (by rfl) b_len (by decide +kernel) (da_cons (de_var rfl (pv 0)) da_nil)) de_int) (dw_or1 (dt_cmp (opr_in hu65) (opd_in false) (de_var rfl (pv 0)) (de_tup (da_cons de_str (da_cons de_str (da_cons de_str (da_cons de_str (da_cons de_str da_nil)))))))))))) (ds_one (ds_ret de_bl)) (ds_end (a := ()) (.k (.k FogL.n)))) fun _ => ds_at (ρ' := [.v l_value0, .un]) rfl (ds_one (ds_ret (de_cmp (opr_eqX hu64) opd_eqX (de_lc (own := [("_law_sign", 1)]) (g := gName 1)  rfl sc_l_is_word.nd (blkOk_by (N := N_l_is_word) (sc := defScope s_l_is_word) (by decide +kernel)) (di_any rfl (de_var rfl (pv 0))) (tgt_name (by simp)) (fun ρ d h => nomatch h) test_rd (fun _ _ _ _ _ => pg_name (i := 1) sc_l_is_word.nd rfl (Or.inl rfl)) (fun _ _ _ _ _ => pts_one (pt_tst fun F l_sign40 ρ' e => by cases e; exact dt_at (ρ' := [.v l_value0, .v l_sign40]) rfl (dt_cmp (opr_notin hu65) (opd_in true) (de_var rfl (pv 1)) de_str))) (fun _ _ _ _ _ => pe_elt fun F l_sign40 ρ' e => by cases e; exact de_at (ρ' := [.v l_value0, .v l_sign40]) rfl (de_var rfl (pv 1)))) (de_lst da_nil))))), rfl⟩
abbrev s_l_is_any_tree : Stmt := topS 41
abbrev N_l_is_any_tree : List Str := ["_law_value", "_law_deep", "_law_much", "_law_part"]
theorem sc_l_is_any_tree : FnScope N_l_is_any_tree ["_law_value", "_law_deep"] (defScope s_l_is_any_tree) := ⟨rfl, rfl, rfl, by decide +kernel, rfl, by decide +kernel, by decide +kernel⟩
def m_l_is_any_tree (G_l_is_any_tree : List Ar → M D) (l_value0 : D) (l_deep0 : D) : M D := (thenR (((((Pure.pure l_deep0) >>= fun x => (Pure.pure (.int 0)) >>= fun y => eqX x y) >>= boolD) >>= fun x => if x = true then Pure.pure true else (((((Pure.pure l_value0) >>= isiD "tuple") >>= boolD) >>= fun b => Pure.pure (!b)) >>= fun x => if x = true then Pure.pure true else ((((Pure.pure l_value0) >>= fun x => ((Pure.pure []) >>= fun as => DL.vals as >>= mkT) >>= fun y => eqX x y) >>= boolD) >>= fun x => if x = true then Pure.pure true else (((((Pure.pure l_value0) >>= fun x => (Pure.pure (.int 0)) >>= fun y => ixD x y) >>= isiD "str") >>= boolD) >>= fun b => Pure.pure (!b))))) >>= fun x => if x = true then ((Pure.pure (.bl false)) >>= fun d => Pure.pure (.rt d)) else (Pure.pure (.nx ()))) fun _ => (thenR (((((Pure.pure l_value0) >>= fun x => (Pure.pure (.int 0)) >>= fun y => ixD x y) >>= fun x => (Pure.pure (.str "name")) >>= fun y => eqX x y) >>= boolD) >>= fun x => if x = true then ((((((Pure.pure l_value0) >>= fun x => (Pure.pure []) >>= fun xs => Pure.pure (.v x :: xs)) >>= fun as => DL.vals as >>= f1 lenD) >>= fun x => (Pure.pure (.int 2)) >>= fun y => eqX x y) >>= fun x => boolD x >>= fun x => if x = true then ((((Pure.pure l_value0) >>= fun x => (Pure.pure (.int 1)) >>= fun y => ixD x y) >>= fun x => (Pure.pure []) >>= fun xs => Pure.pure (.v x :: xs)) >>= g_l_is_word) else Pure.pure (.bl false)) >>= fun d => Pure.pure (.rt d)) else (Pure.pure (.nx ()))) fun _ => (thenR ((((((((Pure.pure (.str "all")) >>= fun x => ((Pure.pure (.int 1)) >>= fun x => (Pure.pure []) >>= fun xs => Pure.pure (.v x :: xs)) >>= fun xs => Pure.pure (.v x :: xs)) >>= fun as => DL.vals as >>= mkT) >>= fun x => ((((Pure.pure (.str "none")) >>= fun x => ((Pure.pure (.int 1)) >>= fun x => (Pure.pure []) >>= fun xs => Pure.pure (.v x :: xs)) >>= fun xs => Pure.pure (.v x :: xs)) >>= fun as => DL.vals as >>= mkT) >>= fun x => ((((Pure.pure (.str "not")) >>= fun x => ((Pure.pure (.int 2)) >>= fun x => (Pure.pure []) >>= fun xs => Pure.pure (.v x :: xs)) >>= fun xs => Pure.pure (.v x :: xs)) >>= fun as => DL.vals as >>= mkT) >>= fun x => ((((Pure.pure (.str "and")) >>= fun x => ((Pure.pure (.int 3)) >>= fun x => (Pure.pure []) >>= fun xs => Pure.pure (.v x :: xs)) >>= fun xs => Pure.pure (.v x :: xs)) >>= fun as => DL.vals as >>= mkT) >>= fun x => ((((Pure.pure (.str "or")) >>= fun x => ((Pure.pure (.int 3)) >>= fun x => (Pure.pure []) >>= fun xs => Pure.pure (.v x :: xs)) >>= fun xs => Pure.pure (.v x :: xs)) >>= fun as => DL.vals as >>= mkT) >>= fun x => (Pure.pure []) >>= fun xs => Pure.pure (.v x :: xs)) >>= fun xs => Pure.pure (.v x :: xs)) >>= fun xs => Pure.pure (.v x :: xs)) >>= fun xs => Pure.pure (.v x :: xs)) >>= fun xs => Pure.pure (.v x :: xs)) >>= fun as => DL.vals as >>= mkL) >>= dictL) >>= fun x => if dicG x = true then ((Pure.pure l_value0) >>= fun x => (Pure.pure (.int 0)) >>= fun y => ixD x y) >>= fun y => (Pure.pure (.int 0)) >>= fun z => dgetD x y z else M.no) >>= fun d => Pure.pure (.nx d)) fun l_much43 => ((((((Pure.pure l_value0) >>= fun x => (Pure.pure []) >>= fun xs => Pure.pure (.v x :: xs)) >>= fun as => DL.vals as >>= f1 lenD) >>= fun x => (Pure.pure l_much43) >>= fun y => eqX x y) >>= fun x => boolD x >>= fun x => if x = true then (((((Pure.pure l_value0) >>= fun x => ((Pure.pure (.int 1)) >>= partD) >>= fun l => (Pure.pure none) >>= fun u => sliceD x l u) >>= iterA) >>= fun ds => noEx (compF (fun l_part44 => (((((Pure.pure l_part44) >>= fun x => (((Pure.pure l_deep0) >>= fun x => (Pure.pure (.int 1)) >>= fun y => subD x y) >>= fun x => (Pure.pure []) >>= fun xs => Pure.pure (.v x :: xs)) >>= fun xs => Pure.pure (.v x :: xs)) >>= G_l_is_any_tree) >>= boolD) >>= fun b => Pure.pure (!b))) (fun l_part44 => (Pure.pure l_part44)) ds) >>= mkL) >>= fun x => ((Pure.pure []) >>= fun as => DL.vals as >>= mkL) >>= fun y => eqX x y) else Pure.pure (.bl false)) >>= fun d => Pure.pure (.rt d))))) >>= doneF (α := Unit)
def g_l_is_any_tree : Nat → List Ar → M D
  | n + 1, [.v l_value0, .v l_deep0] => m_l_is_any_tree (g_l_is_any_tree n) l_value0 l_deep0
  | _, _ => M.no
theorem c_l_is_any_tree {n : Nat} {as : List Ar} {P : Pot} {ok : D → Pot → Prop} {ex : Ex → Pot → Prop} (h : out ((g_l_is_any_tree (n + 1)) as) P ok ex) : ∃ l_value0 l_deep0, as = [.v l_value0, .v l_deep0] := by
  unfold g_l_is_any_tree at h; split at h
  · rename_i z; exact ⟨_, _, rfl⟩
  · exact h.elim
theorem ok_l_is_any_tree {f : Addr} {fd : FuncData} (Fn : Fun K "_law_is_any_tree" "_law_is_any_tree" s_l_is_any_tree f fd) (b_dict : mg "dict" = none) (b_isinstance : mg "isinstance" = none) (b_len : mg "len" = none) (b_str : mg "str" = none) (b_tuple : mg "tuple" = none) (d_l_is_word : Cal P w K mg base 1 "_law_is_word" (spD ⟨mg, K, TT⟩ g_l_is_word)) (hm_ : mg "_law_is_any_tree" = some (.ref f)) (hk_ : PySem.W.keepIn K (.ref f) = true) (hb_ : Binds K fd ["_law_value", "_law_deep"] []) : ∀ n, FnG P w K mg base (1 + 1 * n + 1) f fd ["_law_value", "_law_deep"] (spD ⟨mg, K, TT⟩ (g_l_is_any_tree n)) := by
  intro n
  induction n with
  | zero => exact fnG_of (k := 1) Fn rfl rfl sc_l_is_any_tree (fun as P ok ex h => (out_no h).elim) fun cd A fr s H0 G0 ap E as P0 ok ex h bx => (out_no h).elim
  | succ n ih =>
    have d_l_is_any_tree : Cal P w K mg base (1 + 1 * n + 1) "_law_is_any_tree" (spD ⟨mg, K, TT⟩ (g_l_is_any_tree n)) := ⟨⟨f, fd, _, ih, hm_, hk_, hb_⟩⟩
    have ee : 1 + 1 * (n + 1) + 1 = (1 + 1 * n + 1) + 1 := by omega
    rw [ee]
    refine fnG_of (k := 1 + 1 * n + 1) Fn rfl rfl sc_l_is_any_tree (fun as P ok ex h => by obtain ⟨l_value0, l_deep0, rfl⟩ := c_l_is_any_tree h; rfl) fun cd A fr s H0 G0 ap E as P0 ok ex h bx => ?_
    obtain ⟨l_value0, l_deep0, rfl⟩ := c_l_is_any_tree h
    have hu64 := hu_64 bx.cx.rm
    have hu65 := hu_65 bx.cx.rm
    have hu102 := hu_102 bx.cx.rm
    exact ⟨Unit, (fun (a : Unit) => [.un, .un, .un, .un]), _, ds_at (ρ' := [.v l_value0, .v l_deep0, .un, .un]) rfl (ds_cons (ds_if (E := (fun (a : Unit) => [.v l_value0, .v l_deep0, .un, .un])) (PW.pt (dw_or (dt_cmp (opr_eqX hu64) opd_eqX (de_var rfl (pv 1)) de_int) (dw_or (dt_not (dt_val (de_isi (T := "tuple") rfl (by decide) (by rfl) b_isinstance (de_var rfl (pv 0)) (by rfl) b_tuple (by decide +kernel)))) (dw_or (dt_cmp (opr_eqX hu64) opd_eqX (de_var rfl (pv 0)) (de_tup da_nil)) (dw_or1 (dt_not (dt_val (de_isi (T := "str") rfl (by decide) (by rfl) b_isinstance (de_ix rfl (de_var rfl (pv 0)) de_int (by intro _ _; rfl)) (by rfl) b_str (by decide +kernel))))))))) (ds_one (ds_ret de_bl)) (ds_end (a := ()) (.k (.k (.k (.k FogL.n)))))) fun _ => ds_at (ρ' := [.v l_value0, .v l_deep0, .un, .un]) rfl (ds_cons (ds_if (E := (fun (a : Unit) => [.v l_value0, .v l_deep0, .un, .un])) (dt_cmp (opr_eqX hu64) opd_eqX (de_ix rfl (de_var rfl (pv 0)) de_int (by intro _ _; rfl)) de_str) (ds_one (ds_ret (de_and (de_cmp (opr_eqX hu64) opd_eqX (de_blt cr_len cd_len (by rfl) b_len (by decide +kernel) (da_cons (de_var rfl (pv 0)) da_nil)) de_int) (de_one (de_callC d_l_is_word ⟨rfl, rfl, bx.cx.ga, bx.cx.rm⟩ (by omega) bx.tk (by rfl) (da_cons (de_ix rfl (de_var rfl (pv 0)) de_int (by intro _ _; rfl)) da_nil)))))) (ds_end (a := ()) (.k (.k (.k (.k FogL.n)))))) fun _ => ds_at (ρ' := [.v l_value0, .v l_deep0, .un, .un]) rfl (ds_cons (ds_set (i := 2) sc_l_is_any_tree.nd rfl (Or.inl rfl) (de_dgetX (hu_1 hu64) (de_dictL rfl rfl (by rfl) b_dict (by decide +kernel) (de_lst (da_cons (de_tup (da_cons de_str (da_cons de_int da_nil))) (da_cons (de_tup (da_cons de_str (da_cons de_int da_nil))) (da_cons (de_tup (da_cons de_str (da_cons de_int da_nil))) (da_cons (de_tup (da_cons de_str (da_cons de_int da_nil))) (da_cons (de_tup (da_cons de_str (da_cons de_int da_nil))) da_nil))))))) (de_ix rfl (de_var rfl (pv 0)) de_int (by intro _ _; rfl)) de_int ⟨rfl, rfl, rfl, rfl⟩)) fun l_much43 => ds_at (ρ' := [.v l_value0, .v l_deep0, .v l_much43, .un]) rfl (ds_one (ds_ret (de_and (de_cmp (opr_eqX hu64) opd_eqX (de_blt cr_len cd_len (by rfl) b_len (by decide +kernel) (da_cons (de_var rfl (pv 0)) da_nil)) (de_var rfl (pv 2))) (de_one (de_cmp (opr_eqX hu64) opd_eqX (de_lc (own := [("_law_part", 3)]) (g := gName 3)  rfl sc_l_is_any_tree.nd (blkOk_by (N := N_l_is_any_tree) (sc := defScope s_l_is_any_tree) (by decide +kernel)) (di_any rfl (de_slice rfl (de_var rfl (pv 0)) (do_some de_int) do_none)) (tgt_name (by simp)) (fun ρ d h => nomatch h) test_rd (fun _ _ _ _ _ => pg_name (i := 3) sc_l_is_any_tree.nd rfl (Or.inl rfl)) (fun _ _ _ _ _ => pts_one (pt_tst fun F l_part44 ρ' e => by cases e; exact dt_at (ρ' := [.v l_value0, .v l_deep0, .v l_much43, .v l_part44]) rfl (dt_not (dt_val (de_callC d_l_is_any_tree ⟨rfl, rfl, bx.cx.ga, bx.cx.rm⟩ (by omega) takes0 (by rfl) (da_cons (de_var rfl (pv 3)) (da_cons (de_op op_sub opd_sub (de_var rfl (pv 1)) de_int) da_nil))))))) (fun _ _ _ _ _ => pe_elt fun F l_part44 ρ' e => by cases e; exact de_at (ρ' := [.v l_value0, .v l_deep0, .v l_much43, .v l_part44]) rfl (de_var rfl (pv 3)))) (de_lst da_nil))))))))), rfl⟩
abbrev s_l_is_tree : Stmt := topS 42
abbrev N_l_is_tree : List Str := ["_law_value"]
theorem sc_l_is_tree : FnScope N_l_is_tree ["_law_value"] (defScope s_l_is_tree) := ⟨rfl, rfl, rfl, by decide +kernel, rfl, by decide +kernel, by decide +kernel⟩
def m_l_is_tree (l_value0 : D) : M D := (((((Pure.pure l_value0) >>= fun x => ((Pure.pure (.int 8)) >>= fun x => (Pure.pure []) >>= fun xs => Pure.pure (.v x :: xs)) >>= fun xs => Pure.pure (.v x :: xs)) >>= (g_l_is_any_tree 14)) >>= fun x => boolD x >>= fun x => if x = true then ((((((Pure.pure l_value0) >>= fun x => (Pure.pure []) >>= fun xs => Pure.pure (.v x :: xs)) >>= (g_l_words_in 14)) >>= fun x => (Pure.pure []) >>= fun xs => Pure.pure (.v x :: xs)) >>= fun as => DL.vals as >>= f1 lenD) >>= fun x => (Pure.pure (.int 4)) >>= fun y => leD x y) else Pure.pure (.bl false)) >>= fun d => Pure.pure (.rt d)) >>= doneF (α := Unit)
def g_l_is_tree : List Ar → M D
  | [.v l_value0] => m_l_is_tree l_value0
  | _ => M.no
theorem c_l_is_tree {as : List Ar} {P : Pot} {ok : D → Pot → Prop} {ex : Ex → Pot → Prop} (h : out (g_l_is_tree as) P ok ex) : ∃ l_value0, as = [.v l_value0] := by
  unfold g_l_is_tree at h; split at h
  · exact ⟨_, rfl⟩
  · exact h.elim
theorem ok_l_is_tree {f : Addr} {fd : FuncData} (Fn : Fun K "_law_is_tree" "_law_is_tree" s_l_is_tree f fd) (b_len : mg "len" = none) (d_l_is_any_tree : Cal P w K mg base 16 "_law_is_any_tree" (spD ⟨mg, K, TT⟩ (g_l_is_any_tree 14))) (d_l_words_in : Cal P w K mg base 15 "_law_words_in" (spD ⟨mg, K, TT⟩ (g_l_words_in 14))) : FnG P w K mg base 17 f fd ["_law_value"] (spD ⟨mg, K, TT⟩ g_l_is_tree) := by
  refine fnG_of (k := 16) Fn rfl rfl sc_l_is_tree (fun as P ok ex h => by obtain ⟨l_value0, rfl⟩ := c_l_is_tree h; rfl) fun cd A fr s H0 G0 ap E as P0 ok ex h bx => ?_
  obtain ⟨l_value0, rfl⟩ := c_l_is_tree h
  have hu64 := hu_64 bx.cx.rm
  have hu65 := hu_65 bx.cx.rm
  have hu102 := hu_102 bx.cx.rm
  exact ⟨Unit, (fun (a : Unit) => [.un]), _, ds_at (ρ' := [.v l_value0]) rfl (ds_one (ds_ret (de_and (de_callC d_l_is_any_tree ⟨rfl, rfl, bx.cx.ga, bx.cx.rm⟩ (by omega) bx.tk (by rfl) (da_cons (de_var rfl (pv 0)) (da_cons de_int da_nil))) (de_one (de_cmp opr_le opd_le (de_blt cr_len cd_len (by rfl) b_len (by decide +kernel) (da_cons (de_callC d_l_words_in ⟨rfl, rfl, bx.cx.ga, bx.cx.rm⟩ (by omega) bx.tk (by rfl) (da_cons (de_var rfl (pv 0)) da_nil)) da_nil)) de_int))))), rfl⟩
abbrev s_l_bent : Stmt := topS 43
abbrev N_l_bent : List Str := ["_law_pot_here", "_law_told_here", "_law_odd", "_law_some", "_law_at", "_law_lot"]
theorem sc_l_bent : FnScope N_l_bent ["_law_pot_here", "_law_told_here"] (defScope s_l_bent) := ⟨rfl, rfl, rfl, by decide +kernel, rfl, by decide +kernel, by decide +kernel⟩
def m_l_bent (G_l_bent : List Ar → M D) (l_told_here0 : D) : M D := (thenR ((((Pure.pure .non) >>= fun x => ((Pure.pure (.int 0)) >>= fun x => ((Pure.pure (.str "")) >>= fun x => ((Pure.pure (.str "name")) >>= fun x => ((Pure.pure (.str "all")) >>= fun x => ((Pure.pure (.str "A")) >>= fun x => ((Pure.pure (.str "ninechars")) >>= fun x => ((((Pure.pure (.str "all")) >>= fun x => (Pure.pure []) >>= fun xs => Pure.pure (.v x :: xs)) >>= fun as => DL.vals as >>= mkT) >>= fun x => ((((Pure.pure (.str "none")) >>= fun x => (Pure.pure []) >>= fun xs => Pure.pure (.v x :: xs)) >>= fun as => DL.vals as >>= mkT) >>= fun x => (((Pure.pure []) >>= fun as => DL.vals as >>= mkT) >>= fun x => (((Pure.pure []) >>= fun as => DL.vals as >>= mkL) >>= fun x => ((Pure.pure (.dic [])) >>= fun x => ((Pure.pure (.bl true)) >>= fun x => ((((Pure.pure (.str "name")) >>= fun x => ((Pure.pure (.str "x")) >>= fun x => (Pure.pure []) >>= fun xs => Pure.pure (.v x :: xs)) >>= fun xs => Pure.pure (.v x :: xs)) >>= fun as => DL.vals as >>= mkT) >>= fun x => ((Pure.pure (.str "and")) >>= fun x => (Pure.pure []) >>= fun xs => Pure.pure (.v x :: xs)) >>= fun xs => Pure.pure (.v x :: xs)) >>= fun xs => Pure.pure (.v x :: xs)) >>= fun xs => Pure.pure (.v x :: xs)) >>= fun xs => Pure.pure (.v x :: xs)) >>= fun xs => Pure.pure (.v x :: xs)) >>= fun xs => Pure.pure (.v x :: xs)) >>= fun xs => Pure.pure (.v x :: xs)) >>= fun xs => Pure.pure (.v x :: xs)) >>= fun xs => Pure.pure (.v x :: xs)) >>= fun xs => Pure.pure (.v x :: xs)) >>= fun xs => Pure.pure (.v x :: xs)) >>= fun xs => Pure.pure (.v x :: xs)) >>= fun xs => Pure.pure (.v x :: xs)) >>= fun xs => Pure.pure (.v x :: xs)) >>= fun as => DL.vals as >>= mkL) >>= fun d => Pure.pure (.nx d)) fun l_odd45 => (thenR ((((((Pure.pure l_told_here0) >>= isiD "tuple") >>= boolD) >>= fun b => Pure.pure (!b)) >>= fun x => if x = true then Pure.pure true else (((Pure.pure l_told_here0) >>= fun x => ((Pure.pure []) >>= fun as => DL.vals as >>= mkT) >>= fun y => eqX x y) >>= boolD)) >>= fun x => if x = true then ((((((Pure.pure l_odd45) >>= fun x => (((Pure.pure (.str "not")) >>= fun x => ((Pure.pure (.str "x")) >>= fun x => ((Pure.pure l_told_here0) >>= fun x => (Pure.pure []) >>= fun xs => Pure.pure (.v x :: xs)) >>= fun xs => Pure.pure (.v x :: xs)) >>= fun xs => Pure.pure (.v x :: xs)) >>= fun as => DL.vals as >>= mkL) >>= fun y => addD x y) >>= fun x => (Pure.pure []) >>= fun xs => Pure.pure (.v x :: xs)) >>= fun xs => Pure.pure (.p :: xs)) >>= g_l_pick) >>= fun d => Pure.pure (.rt d)) else (Pure.pure (.nx ()))) fun _ => (thenR ((((((((Pure.pure l_told_here0) >>= fun x => (Pure.pure []) >>= fun xs => Pure.pure (.v x :: xs)) >>= fun as => DL.vals as >>= f1 lenD) >>= fun x => (Pure.pure []) >>= fun xs => Pure.pure (.v x :: xs)) >>= fun xs => Pure.pure (.p :: xs)) >>= g_l_bit) >>= fun x => (((((Pure.pure (.int 8)) >>= fun x => (Pure.pure []) >>= fun xs => Pure.pure (.v x :: xs)) >>= fun xs => Pure.pure (.p :: xs)) >>= g_l_bit) >>= fun x => (Pure.pure []) >>= fun xs => Pure.pure (.v x :: xs)) >>= fun xs => Pure.pure (.v x :: xs)) >>= fun as => DL.vals as >>= two fun d e => Pure.pure (.nx (d, e))) fun l_at47 => (thenR ((((Pure.pure l_at47.2) >>= fun x => (Pure.pure (.int 5)) >>= fun y => ltD x y) >>= boolD) >>= fun x => if x = true then (((((Pure.pure l_told_here0) >>= fun x => (Pure.pure none) >>= fun l => ((Pure.pure l_at47.1) >>= partD) >>= fun u => sliceD x l u) >>= fun x => (((((((Pure.pure l_told_here0) >>= fun x => (Pure.pure l_at47.1) >>= fun y => ixD x y) >>= fun x => (Pure.pure []) >>= fun xs => Pure.pure (.v x :: xs)) >>= fun xs => Pure.pure (.p :: xs)) >>= G_l_bent) >>= fun x => (Pure.pure []) >>= fun xs => Pure.pure (.v x :: xs)) >>= fun as => DL.vals as >>= mkT) >>= fun y => addD x y) >>= fun x => ((Pure.pure l_told_here0) >>= fun x => (((Pure.pure l_at47.1) >>= fun x => (Pure.pure (.int 1)) >>= fun y => addD x y) >>= partD) >>= fun l => (Pure.pure none) >>= fun u => sliceD x l u) >>= fun y => addD x y) >>= fun d => Pure.pure (.rt d)) else (Pure.pure (.nx ()))) fun _ => (thenR ((((((Pure.pure l_told_here0) >>= fun x => (Pure.pure none) >>= fun l => ((Pure.pure l_at47.1) >>= partD) >>= fun u => sliceD x l u) >>= fun x => ((Pure.pure l_told_here0) >>= fun x => (((Pure.pure l_at47.1) >>= fun x => (Pure.pure (.int 1)) >>= fun y => addD x y) >>= partD) >>= fun l => (Pure.pure none) >>= fun u => sliceD x l u) >>= fun y => addD x y) >>= fun x => (((Pure.pure l_told_here0) >>= fun x => ((Pure.pure l_told_here0) >>= fun x => (((Pure.pure (.int 1)) >>= negD) >>= partD) >>= fun l => (Pure.pure none) >>= fun u => sliceD x l u) >>= fun y => addD x y) >>= fun x => ((((Pure.pure l_told_here0) >>= fun x => (Pure.pure []) >>= fun xs => Pure.pure (.v x :: xs)) >>= fun as => DL.vals as >>= f1 listE) >>= fun x => ((((Pure.pure l_told_here0) >>= fun x => (Pure.pure []) >>= fun xs => Pure.pure (.v x :: xs)) >>= fun as => DL.vals as >>= mkT) >>= fun x => ((((Pure.pure (.str "not")) >>= fun x => ((Pure.pure l_told_here0) >>= fun x => (Pure.pure []) >>= fun xs => Pure.pure (.v x :: xs)) >>= fun xs => Pure.pure (.v x :: xs)) >>= fun as => DL.vals as >>= mkT) >>= fun x => ((((Pure.pure (.str "and")) >>= fun x => ((Pure.pure l_told_here0) >>= fun x => (Pure.pure []) >>= fun xs => Pure.pure (.v x :: xs)) >>= fun xs => Pure.pure (.v x :: xs)) >>= fun as => DL.vals as >>= mkT) >>= fun x => (Pure.pure []) >>= fun xs => Pure.pure (.v x :: xs)) >>= fun xs => Pure.pure (.v x :: xs)) >>= fun xs => Pure.pure (.v x :: xs)) >>= fun xs => Pure.pure (.v x :: xs)) >>= fun xs => Pure.pure (.v x :: xs)) >>= fun xs => Pure.pure (.v x :: xs)) >>= fun as => DL.vals as >>= mkL) >>= fun d => Pure.pure (.nx d)) fun l_some50 => ((((((Pure.pure l_some50) >>= fun x => (((((Pure.pure (.str "not")) >>= fun x => ((Pure.pure l_told_here0) >>= fun x => ((Pure.pure l_told_here0) >>= fun x => (Pure.pure []) >>= fun xs => Pure.pure (.v x :: xs)) >>= fun xs => Pure.pure (.v x :: xs)) >>= fun xs => Pure.pure (.v x :: xs)) >>= fun as => DL.vals as >>= mkT) >>= fun x => ((((Pure.pure (.str "or")) >>= fun x => ((Pure.pure l_told_here0) >>= fun x => ((((Pure.pure (.str "name")) >>= fun x => ((Pure.pure (.str "x")) >>= fun x => (Pure.pure []) >>= fun xs => Pure.pure (.v x :: xs)) >>= fun xs => Pure.pure (.v x :: xs)) >>= fun as => DL.vals as >>= mkT) >>= fun x => (Pure.pure []) >>= fun xs => Pure.pure (.v x :: xs)) >>= fun xs => Pure.pure (.v x :: xs)) >>= fun xs => Pure.pure (.v x :: xs)) >>= fun as => DL.vals as >>= mkT) >>= fun x => ((((Pure.pure (.str "and")) >>= fun x => ((((Pure.pure (.str "name")) >>= fun x => ((Pure.pure (.str "u")) >>= fun x => (Pure.pure []) >>= fun xs => Pure.pure (.v x :: xs)) >>= fun xs => Pure.pure (.v x :: xs)) >>= fun as => DL.vals as >>= mkT) >>= fun x => ((Pure.pure l_told_here0) >>= fun x => (Pure.pure []) >>= fun xs => Pure.pure (.v x :: xs)) >>= fun xs => Pure.pure (.v x :: xs)) >>= fun xs => Pure.pure (.v x :: xs)) >>= fun as => DL.vals as >>= mkT) >>= fun x => (Pure.pure []) >>= fun xs => Pure.pure (.v x :: xs)) >>= fun xs => Pure.pure (.v x :: xs)) >>= fun xs => Pure.pure (.v x :: xs)) >>= fun as => DL.vals as >>= mkL) >>= fun y => addD x y) >>= fun x => (Pure.pure []) >>= fun xs => Pure.pure (.v x :: xs)) >>= fun xs => Pure.pure (.p :: xs)) >>= g_l_pick) >>= fun d => Pure.pure (.rt d))))))) >>= doneF (α := Unit)
def g_l_bent : Nat → List Ar → M D
  | n + 1, [.p, .v l_told_here0] => m_l_bent (g_l_bent n) l_told_here0
  | _, _ => M.no
theorem c_l_bent {n : Nat} {as : List Ar} {P : Pot} {ok : D → Pot → Prop} {ex : Ex → Pot → Prop} (h : out ((g_l_bent (n + 1)) as) P ok ex) : ∃ l_told_here0, as = [.p, .v l_told_here0] := by
  unfold g_l_bent at h; split at h
  · rename_i z; exact ⟨_, rfl⟩
  · exact h.elim
theorem ok_l_bent {f : Addr} {fd : FuncData} (Fn : Fun K "_law_bent" "_law_bent" s_l_bent f fd) (b_isinstance : mg "isinstance" = none) (b_len : mg "len" = none) (b_list : mg "list" = none) (b_tuple : mg "tuple" = none) (d_l_bit : Cal P w K mg base 1 "_law_bit" (spD ⟨mg, K, TT⟩ g_l_bit)) (d_l_pick : Cal P w K mg base 2 "_law_pick" (spD ⟨mg, K, TT⟩ g_l_pick)) (hm_ : mg "_law_bent" = some (.ref f)) (hk_ : PySem.W.keepIn K (.ref f) = true) (hb_ : Binds K fd ["_law_pot_here", "_law_told_here"] []) : ∀ n, FnG P w K mg base (2 + 1 * n + 1) f fd ["_law_pot_here", "_law_told_here"] (spD ⟨mg, K, TT⟩ (g_l_bent n)) := by
  intro n
  induction n with
  | zero => exact fnG_of (k := 2) Fn rfl rfl sc_l_bent (fun as P ok ex h => (out_no h).elim) fun cd A fr s H0 G0 ap E as P0 ok ex h bx => (out_no h).elim
  | succ n ih =>
    have d_l_bent : Cal P w K mg base (2 + 1 * n + 1) "_law_bent" (spD ⟨mg, K, TT⟩ (g_l_bent n)) := ⟨⟨f, fd, _, ih, hm_, hk_, hb_⟩⟩
    have ee : 2 + 1 * (n + 1) + 1 = (2 + 1 * n + 1) + 1 := by omega
    rw [ee]
    refine fnG_of (k := 2 + 1 * n + 1) Fn rfl rfl sc_l_bent (fun as P ok ex h => by obtain ⟨l_told_here0, rfl⟩ := c_l_bent h; rfl) fun cd A fr s H0 G0 ap E as P0 ok ex h bx => ?_
    obtain ⟨l_told_here0, rfl⟩ := c_l_bent h
    have hu64 := hu_64 bx.cx.rm
    have hu65 := hu_65 bx.cx.rm
    have hu102 := hu_102 bx.cx.rm
    exact ⟨Unit, (fun (a : Unit) => [.p, .un, .un, .un, .un, .un]), _, ds_at (ρ' := [.p, .v l_told_here0, .un, .un, .un, .un]) rfl (ds_cons (ds_set (i := 2) sc_l_bent.nd rfl (Or.inl rfl) (de_lst (da_cons de_non (da_cons de_int (da_cons de_str (da_cons de_str (da_cons de_str (da_cons de_str (da_cons de_str (da_cons (de_tup (da_cons de_str da_nil)) (da_cons (de_tup (da_cons de_str da_nil)) (da_cons (de_tup da_nil) (da_cons (de_lst da_nil) (da_cons de_dic0 (da_cons de_bl (da_cons (de_tup (da_cons de_str (da_cons de_str da_nil))) (da_cons de_str da_nil))))))))))))))))) fun l_odd45 => ds_at (ρ' := [.p, .v l_told_here0, .v l_odd45, .un, .un, .un]) rfl (ds_cons (ds_if (E := (fun (a : Unit) => [.p, .v l_told_here0, .v l_odd45, .un, .un, .un])) (PW.pt (dw_or (dt_not (dt_val (de_isi (T := "tuple") rfl (by decide) (by rfl) b_isinstance (de_var rfl (pv 1)) (by rfl) b_tuple (by decide +kernel)))) (dw_or1 (dt_cmp (opr_eqX hu64) opd_eqX (de_var rfl (pv 1)) (de_tup da_nil))))) (ds_one (ds_ret (de_callC d_l_pick ⟨rfl, rfl, bx.cx.ga, bx.cx.rm⟩ (by omega) bx.tk (by rfl) (da_pot rfl (pv 0) (da_cons (de_op opr_add opd_add (de_var rfl (pv 2)) (de_lst (da_cons de_str (da_cons de_str (da_cons (de_var rfl (pv 1)) da_nil))))) da_nil))))) (ds_end (a := ()) (.k (.k (.k (.k (.k (.k FogL.n)))))))) fun _ => ds_at (ρ' := [.p, .v l_told_here0, .v l_odd45, .un, .un, .un]) rfl (ds_cons (ds_par (i := 4) (j := 5) rfl sc_l_bent.nd rfl rfl (by decide) rfl rfl (da_cons (de_callC d_l_bit ⟨rfl, rfl, bx.cx.ga, bx.cx.rm⟩ (by omega) bx.tk (by rfl) (da_pot rfl (pv 0) (da_cons (de_blt cr_len cd_len (by rfl) b_len (by decide +kernel) (da_cons (de_var rfl (pv 1)) da_nil)) da_nil))) (da_cons (de_callC d_l_bit ⟨rfl, rfl, bx.cx.ga, bx.cx.rm⟩ (by omega) bx.tk (by rfl) (da_pot rfl (pv 0) (da_cons de_int da_nil))) da_nil)) (by rfl)) fun l_at47 => ds_at (ρ' := [.p, .v l_told_here0, .v l_odd45, .un, .v l_at47.1, .v l_at47.2]) rfl (ds_cons (ds_if (E := (fun (a : Unit) => [.p, .v l_told_here0, .v l_odd45, .un, .v l_at47.1, .v l_at47.2])) (dt_cmp opr_lt opd_lt (de_var rfl (pv 5)) de_int) (ds_one (ds_ret (de_op opr_add opd_add (de_op opr_add opd_add (de_slice rfl (de_var rfl (pv 1)) do_none (do_some (de_var rfl (pv 4)))) (de_tup (da_cons (de_callC d_l_bent ⟨rfl, rfl, bx.cx.ga, bx.cx.rm⟩ (by omega) bx.tk (by rfl) (da_pot rfl (pv 0) (da_cons (de_ix rfl (de_var rfl (pv 1)) (de_var rfl (pv 4)) (by intro _ _; rfl)) da_nil))) da_nil))) (de_slice rfl (de_var rfl (pv 1)) (do_some (de_op opr_add opd_add (de_var rfl (pv 4)) de_int)) do_none)))) (ds_end (a := ()) (.k (.k (.k (.k (.k (.k FogL.n)))))))) fun _ => ds_at (ρ' := [.p, .v l_told_here0, .v l_odd45, .un, .v l_at47.1, .v l_at47.2]) rfl (ds_cons (ds_set (i := 3) sc_l_bent.nd rfl (Or.inl rfl) (de_lst (da_cons (de_op opr_add opd_add (de_slice rfl (de_var rfl (pv 1)) do_none (do_some (de_var rfl (pv 4)))) (de_slice rfl (de_var rfl (pv 1)) (do_some (de_op opr_add opd_add (de_var rfl (pv 4)) de_int)) do_none)) (da_cons (de_op opr_add opd_add (de_var rfl (pv 1)) (de_slice rfl (de_var rfl (pv 1)) (do_some (de_un un_neg und_neg de_int)) do_none)) (da_cons (de_ty (cr_listE rfl) cd_listE (by rfl) b_list (by decide +kernel) (da_cons (de_var rfl (pv 1)) da_nil)) (da_cons (de_tup (da_cons (de_var rfl (pv 1)) da_nil)) (da_cons (de_tup (da_cons de_str (da_cons (de_var rfl (pv 1)) da_nil))) (da_cons (de_tup (da_cons de_str (da_cons (de_var rfl (pv 1)) da_nil))) da_nil)))))))) fun l_some50 => ds_at (ρ' := [.p, .v l_told_here0, .v l_odd45, .v l_some50, .v l_at47.1, .v l_at47.2]) rfl (ds_one (ds_ret (de_callC d_l_pick ⟨rfl, rfl, bx.cx.ga, bx.cx.rm⟩ (by omega) bx.tk (by rfl) (da_pot rfl (pv 0) (da_cons (de_op opr_add opd_add (de_var rfl (pv 3)) (de_lst (da_cons (de_tup (da_cons de_str (da_cons (de_var rfl (pv 1)) (da_cons (de_var rfl (pv 1)) da_nil)))) (da_cons (de_tup (da_cons de_str (da_cons (de_var rfl (pv 1)) (da_cons (de_tup (da_cons de_str (da_cons de_str da_nil))) da_nil)))) (da_cons (de_tup (da_cons de_str (da_cons (de_tup (da_cons de_str (da_cons de_str da_nil))) (da_cons (de_var rfl (pv 1)) da_nil)))) da_nil))))) da_nil)))))))))), rfl⟩
abbrev s_l_wide : Stmt := topS 44
abbrev N_l_wide : List Str := ["_law_pot_here", "_law_words", "_law_lot", "_law_tree_here", "_law_turn", "_law_word"]
theorem sc_l_wide : FnScope N_l_wide ["_law_pot_here", "_law_words"] (defScope s_l_wide) := ⟨rfl, rfl, rfl, by decide +kernel, rfl, by decide +kernel, by decide +kernel⟩
def m_l_wide (l_words0 : D) : M D := (thenR (((((Pure.pure (.int 6)) >>= fun x => (Pure.pure []) >>= fun xs => Pure.pure (.v x :: xs)) >>= fun xs => Pure.pure (.p :: xs)) >>= g_l_bit) >>= fun d => Pure.pure (.nx d)) fun l_lot51 => (thenR (((((Pure.pure l_words0) >>= fun x => (((((Pure.pure l_lot51) >>= fun x => (Pure.pure (.int 1)) >>= fun y => gtD x y) >>= boolD) >>= fun x => if x = true then (Pure.pure (.int 7)) else (Pure.pure (.int 4))) >>= fun x => (Pure.pure []) >>= fun xs => Pure.pure (.v x :: xs)) >>= fun xs => Pure.pure (.v x :: xs)) >>= fun xs => Pure.pure (.p :: xs)) >>= (g_l_tree 14)) >>= fun d => Pure.pure (.nx d)) fun l_tree_here52 => (thenR ((((Pure.pure l_lot51) >>= fun x => (Pure.pure (.int 0)) >>= fun y => eqD x y) >>= boolD) >>= fun x => if x = true then (thenR (((((Pure.pure (.int 3)) >>= fun x => ((((Pure.pure (.int 3)) >>= fun x => (Pure.pure []) >>= fun xs => Pure.pure (.v x :: xs)) >>= fun xs => Pure.pure (.p :: xs)) >>= g_l_bit) >>= fun y => addD x y) >>= fun x => (Pure.pure []) >>= fun xs => Pure.pure (.v x :: xs)) >>= rng1) >>= fun ds => forF (fun (a53 : D) l_turn54 => (thenR ((((Pure.pure (.str "not")) >>= fun x => ((Pure.pure a53) >>= fun x => (Pure.pure []) >>= fun xs => Pure.pure (.v x :: xs)) >>= fun xs => Pure.pure (.v x :: xs)) >>= fun as => DL.vals as >>= mkT) >>= fun d => Pure.pure (.nx d)) fun l_tree_here55 => (Pure.pure (.nx l_tree_here55)))) ds l_tree_here52) fun a56 => (Pure.pure (.nx a56))) else (Pure.pure (.nx l_tree_here52))) fun a57 => (thenR ((((Pure.pure l_lot51) >>= fun x => (Pure.pure (.int 1)) >>= fun y => eqD x y) >>= boolD) >>= fun x => if x = true then (thenR ((((((Pure.pure (.str "q")) >>= fun x => ((Pure.pure (.str "r")) >>= fun x => ((Pure.pure (.str "s")) >>= fun x => ((Pure.pure (.str "t")) >>= fun x => (Pure.pure []) >>= fun xs => Pure.pure (.v x :: xs)) >>= fun xs => Pure.pure (.v x :: xs)) >>= fun xs => Pure.pure (.v x :: xs)) >>= fun xs => Pure.pure (.v x :: xs)) >>= fun as => DL.vals as >>= mkT) >>= fun x => (Pure.pure none) >>= fun l => (((Pure.pure (.int 1)) >>= fun x => ((((Pure.pure (.int 4)) >>= fun x => (Pure.pure []) >>= fun xs => Pure.pure (.v x :: xs)) >>= fun xs => Pure.pure (.p :: xs)) >>= g_l_bit) >>= fun y => addD x y) >>= partD) >>= fun u => sliceD x l u) >>= iterA) >>= fun ds => forF (fun (a58 : D) l_word59 => (thenR (((((((((Pure.pure (.str "and")) >>= fun x => ((Pure.pure (.str "or")) >>= fun x => (Pure.pure []) >>= fun xs => Pure.pure (.v x :: xs)) >>= fun xs => Pure.pure (.v x :: xs)) >>= fun as => DL.vals as >>= mkL) >>= fun x => (Pure.pure []) >>= fun xs => Pure.pure (.v x :: xs)) >>= fun xs => Pure.pure (.p :: xs)) >>= g_l_pick) >>= fun x => ((((Pure.pure (.str "name")) >>= fun x => ((Pure.pure l_word59) >>= fun x => (Pure.pure []) >>= fun xs => Pure.pure (.v x :: xs)) >>= fun xs => Pure.pure (.v x :: xs)) >>= fun as => DL.vals as >>= mkT) >>= fun x => ((Pure.pure a58) >>= fun x => (Pure.pure []) >>= fun xs => Pure.pure (.v x :: xs)) >>= fun xs => Pure.pure (.v x :: xs)) >>= fun xs => Pure.pure (.v x :: xs)) >>= fun as => DL.vals as >>= mkT) >>= fun d => Pure.pure (.nx d)) fun l_tree_here60 => (Pure.pure (.nx l_tree_here60)))) ds a57) fun a61 => (Pure.pure (.nx a61))) else (Pure.pure (.nx a57))) fun a62 => ((Pure.pure a62) >>= fun d => Pure.pure (.rt d)))))) >>= doneF (α := Unit)
def g_l_wide : List Ar → M D
  | [.p, .v l_words0] => m_l_wide l_words0
  | _ => M.no
theorem c_l_wide {as : List Ar} {P : Pot} {ok : D → Pot → Prop} {ex : Ex → Pot → Prop} (h : out (g_l_wide as) P ok ex) : ∃ l_words0, as = [.p, .v l_words0] := by
  unfold g_l_wide at h; split at h
  · exact ⟨_, rfl⟩
  · exact h.elim
theorem ok_l_wide {f : Addr} {fd : FuncData} (Fn : Fun K "_law_wide" "_law_wide" s_l_wide f fd) (b_range : mg "range" = none) (d_l_bit : Cal P w K mg base 1 "_law_bit" (spD ⟨mg, K, TT⟩ g_l_bit)) (d_l_pick : Cal P w K mg base 2 "_law_pick" (spD ⟨mg, K, TT⟩ g_l_pick)) (d_l_tree : Cal P w K mg base 17 "_law_tree" (spD ⟨mg, K, TT⟩ (g_l_tree 14))) : FnG P w K mg base 18 f fd ["_law_pot_here", "_law_words"] (spD ⟨mg, K, TT⟩ g_l_wide) := by
  refine fnG_of (k := 17) Fn rfl rfl sc_l_wide (fun as P ok ex h => by obtain ⟨l_words0, rfl⟩ := c_l_wide h; rfl) fun cd A fr s H0 G0 ap E as P0 ok ex h bx => ?_
  obtain ⟨l_words0, rfl⟩ := c_l_wide h
  have hu64 := hu_64 bx.cx.rm
  have hu65 := hu_65 bx.cx.rm
  have hu102 := hu_102 bx.cx.rm
  exact ⟨Unit, (fun (a : Unit) => [.p, .un, .un, .un, .un, .un]), _, ds_at (ρ' := [.p, .v l_words0, .un, .un, .un, .un]) rfl (ds_cons (ds_set (i := 2) sc_l_wide.nd rfl (Or.inl rfl) (de_callC d_l_bit ⟨rfl, rfl, bx.cx.ga, bx.cx.rm⟩ (by omega) bx.tk (by rfl) (da_pot rfl (pv 0) (da_cons de_int da_nil)))) fun l_lot51 => ds_at (ρ' := [.p, .v l_words0, .v l_lot51, .un, .un, .un]) rfl (ds_cons (ds_set (i := 3) sc_l_wide.nd rfl (Or.inl rfl) (de_callC d_l_tree ⟨rfl, rfl, bx.cx.ga, bx.cx.rm⟩ (by omega) bx.tk (by rfl) (da_pot rfl (pv 0) (da_cons (de_var rfl (pv 1)) (da_cons (de_if (dt_cmp opr_gt opd_gt (de_var rfl (pv 2)) de_int) de_int de_int) da_nil))))) fun l_tree_here52 => ds_at (ρ' := [.p, .v l_words0, .v l_lot51, .v l_tree_here52, .un, .un]) rfl (ds_cons (ds_if (E := (fun (a : D) => [.p, .v l_words0, .v l_lot51, .v a, .un, .un])) (dt_cmp (op_eqD hu64) opd_eq (de_var rfl (pv 2)) de_int) (ds_cons (ds_for (E := (fun (a : D) => [.p, .v l_words0, .v l_lot51, .v a, .un, .un])) (a₀ := l_tree_here52) (t := fun (a : D) d => some (((fun (a : D) => [.p, .v l_words0, .v l_lot51, .v a, .un, .un]) a).set 4 (.v d))) bx.own rfl (Rel.fogL (.k (.k (.k (.k (.k (.k FogL.n))))))) (di_rng1 (by rfl) b_range (da_cons (de_op opr_add opd_add de_int (de_callC d_l_bit ⟨rfl, rfl, bx.cx.ga, bx.cx.rm⟩ (by omega) bx.tk (by rfl) (da_pot rfl (pv 0) (da_cons de_int da_nil)))) da_nil)) (pg_ex fun a => dg_name (i := 4) sc_l_wide.nd rfl (Or.inl rfl)) (fun a d h => nomatch h) (pss_for fun a53 l_turn54 ρ' e => by cases e; exact ds_at (ρ' := [.p, .v l_words0, .v l_lot51, .v a53, .v l_turn54, .un]) rfl (ds_cons (ds_set (i := 3) sc_l_wide.nd rfl (Or.inl rfl) (de_tup (da_cons de_str (da_cons (de_var rfl (pv 3)) da_nil)))) fun l_tree_here55 => ds_at (ρ' := [.p, .v l_words0, .v l_lot51, .v l_tree_here55, .v l_turn54, .un]) rfl (ds_end (a := l_tree_here55) (.k (.k (.k (.k (.u (.k FogL.n)))))))))) fun a56 => ds_at (ρ' := [.p, .v l_words0, .v l_lot51, .v a56, .un, .un]) rfl (ds_end (a := a56) (.k (.k (.k (.k (.k (.k FogL.n)))))))) (ds_end (a := l_tree_here52) (.k (.k (.k (.k (.k (.k FogL.n)))))))) fun a57 => ds_at (ρ' := [.p, .v l_words0, .v l_lot51, .v a57, .un, .un]) rfl (ds_cons (ds_if (E := (fun (a : D) => [.p, .v l_words0, .v l_lot51, .v a, .un, .un])) (dt_cmp (op_eqD hu64) opd_eq (de_var rfl (pv 2)) de_int) (ds_cons (ds_for (E := (fun (a : D) => [.p, .v l_words0, .v l_lot51, .v a, .un, .un])) (a₀ := a57) (t := fun (a : D) d => some (((fun (a : D) => [.p, .v l_words0, .v l_lot51, .v a, .un, .un]) a).set 5 (.v d))) bx.own rfl (Rel.fogL (.k (.k (.k (.k (.k (.k FogL.n))))))) (di_any rfl (de_slice rfl (de_tup (da_cons de_str (da_cons de_str (da_cons de_str (da_cons de_str da_nil))))) do_none (do_some (de_op opr_add opd_add de_int (de_callC d_l_bit ⟨rfl, rfl, bx.cx.ga, bx.cx.rm⟩ (by omega) bx.tk (by rfl) (da_pot rfl (pv 0) (da_cons de_int da_nil))))))) (pg_ex fun a => dg_name (i := 5) sc_l_wide.nd rfl (Or.inl rfl)) (fun a d h => nomatch h) (pss_for fun a58 l_word59 ρ' e => by cases e; exact ds_at (ρ' := [.p, .v l_words0, .v l_lot51, .v a58, .un, .v l_word59]) rfl (ds_cons (ds_set (i := 3) sc_l_wide.nd rfl (Or.inl rfl) (de_tup (da_cons (de_callC d_l_pick ⟨rfl, rfl, bx.cx.ga, bx.cx.rm⟩ (by omega) bx.tk (by rfl) (da_pot rfl (pv 0) (da_cons (de_lst (da_cons de_str (da_cons de_str da_nil))) da_nil))) (da_cons (de_tup (da_cons de_str (da_cons (de_var rfl (pv 5)) da_nil))) (da_cons (de_var rfl (pv 3)) da_nil))))) fun l_tree_here60 => ds_at (ρ' := [.p, .v l_words0, .v l_lot51, .v l_tree_here60, .un, .v l_word59]) rfl (ds_end (a := l_tree_here60) (.k (.k (.k (.k (.k (.u FogL.n)))))))))) fun a61 => ds_at (ρ' := [.p, .v l_words0, .v l_lot51, .v a61, .un, .un]) rfl (ds_end (a := a61) (.k (.k (.k (.k (.k (.k FogL.n)))))))) (ds_end (a := a57) (.k (.k (.k (.k (.k (.k FogL.n)))))))) fun a62 => ds_at (ρ' := [.p, .v l_words0, .v l_lot51, .v a62, .un, .un]) rfl (ds_one (ds_ret (de_var rfl (pv 3)))))))), rfl⟩
abbrev s_l_nested : Stmt := topS 45
abbrev N_l_nested : List Str := ["_law_value", "_law_part"]
theorem sc_l_nested : FnScope N_l_nested ["_law_value"] (defScope s_l_nested) := ⟨rfl, rfl, rfl, by decide +kernel, rfl, by decide +kernel, by decide +kernel⟩
def m_l_nested (G_l_nested : List Ar → M D) (l_value0 : D) : M D := (thenR ((((Pure.pure l_value0) >>= isiD "dict") >>= boolD) >>= fun x => if x = true then ((Pure.pure (.int 1)) >>= fun d => Pure.pure (.rt d)) else (Pure.pure (.nx ()))) fun _ => (thenR ((((((Pure.pure l_value0) >>= isiD "tuple") >>= boolD) >>= fun b => Pure.pure (!b)) >>= fun x => if x = true then ((((Pure.pure l_value0) >>= isiD "list") >>= boolD) >>= fun b => Pure.pure (!b)) else Pure.pure false) >>= fun x => if x = true then ((Pure.pure (.int 0)) >>= fun d => Pure.pure (.rt d)) else (Pure.pure (.nx ()))) fun _ => (((Pure.pure (.int 1)) >>= fun x => ((((((Pure.pure l_value0) >>= iterA) >>= fun ds => noEx (compF (fun _ => Pure.pure true) (fun l_part65 => (((Pure.pure l_part65) >>= fun x => (Pure.pure []) >>= fun xs => Pure.pure (.v x :: xs)) >>= G_l_nested)) ds) >>= mkL) >>= fun x => (((Pure.pure (.int 0)) >>= fun x => (Pure.pure []) >>= fun xs => Pure.pure (.v x :: xs)) >>= fun as => DL.vals as >>= mkL) >>= fun y => addD x y) >>= fun x => (Pure.pure []) >>= fun xs => Pure.pure (.v x :: xs)) >>= fun as => DL.vals as >>= f1 maxL) >>= fun y => addD x y) >>= fun d => Pure.pure (.rt d)))) >>= doneF (α := Unit)
def g_l_nested : Nat → List Ar → M D
  | n + 1, [.v l_value0] => m_l_nested (g_l_nested n) l_value0
  | _, _ => M.no
theorem c_l_nested {n : Nat} {as : List Ar} {P : Pot} {ok : D → Pot → Prop} {ex : Ex → Pot → Prop} (h : out ((g_l_nested (n + 1)) as) P ok ex) : ∃ l_value0, as = [.v l_value0] := by
  unfold g_l_nested at h; split at h
  · rename_i z; exact ⟨_, rfl⟩
  · exact h.elim
theorem ok_l_nested {f : Addr} {fd : FuncData} (Fn : Fun K "_law_nested" "_law_nested" s_l_nested f fd) (b_dict : mg "dict" = none) (b_isinstance : mg "isinstance" = none) (b_list : mg "list" = none) (b_max : mg "max" = none) (b_tuple : mg "tuple" = none) (hm_ : mg "_law_nested" = some (.ref f)) (hk_ : PySem.W.keepIn K (.ref f) = true) (hb_ : Binds K fd ["_law_value"] []) : ∀ n, FnG P w K mg base (0 + 1 * n + 1) f fd ["_law_value"] (spD ⟨mg, K, TT⟩ (g_l_nested n)) := by
  intro n
  induction n with
  | zero => exact fnG_of (k := 0) Fn rfl rfl sc_l_nested (fun as P ok ex h => (out_no h).elim) fun cd A fr s H0 G0 ap E as P0 ok ex h bx => (out_no h).elim
  | succ n ih =>
    have d_l_nested : Cal P w K mg base (0 + 1 * n + 1) "_law_nested" (spD ⟨mg, K, TT⟩ (g_l_nested n)) := ⟨⟨f, fd, _, ih, hm_, hk_, hb_⟩⟩
    have ee : 0 + 1 * (n + 1) + 1 = (0 + 1 * n + 1) + 1 := by omega
    rw [ee]
    refine fnG_of (k := 0 + 1 * n + 1) Fn rfl rfl sc_l_nested (fun as P ok ex h => by obtain ⟨l_value0, rfl⟩ := c_l_nested h; rfl) fun cd A fr s H0 G0 ap E as P0 ok ex h bx => ?_
    obtain ⟨l_value0, rfl⟩ := c_l_nested h
    have hu64 := hu_64 bx.cx.rm
    have hu65 := hu_65 bx.cx.rm
    have hu102 := hu_102 bx.cx.rm
    exact ⟨Unit, (fun (a : Unit) => [.un, .un]), _, ds_at (ρ' := [.v l_value0, .un]) rfl (ds_cons (ds_if (E := (fun (a : Unit) => [.v l_value0, .un])) (dt_val (de_isi (T := "dict") rfl (by decide) (by rfl) b_isinstance (de_var rfl (pv 0)) (by rfl) b_dict (by decide +kernel))) (ds_one (ds_ret de_int)) (ds_end (a := ()) (.k (.k FogL.n)))) fun _ => ds_at (ρ' := [.v l_value0, .un]) rfl (ds_cons (ds_if (E := (fun (a : Unit) => [.v l_value0, .un])) (PW.pt (dw_and (dt_not (dt_val (de_isi (T := "tuple") rfl (by decide) (by rfl) b_isinstance (de_var rfl (pv 0)) (by rfl) b_tuple (by decide +kernel)))) (dw_and1 (dt_not (dt_val (de_isi (T := "list") rfl (by decide) (by rfl) b_isinstance (de_var rfl (pv 0)) (by rfl) b_list (by decide +kernel))))))) (ds_one (ds_ret de_int)) (ds_end (a := ()) (.k (.k FogL.n)))) fun _ => ds_at (ρ' := [.v l_value0, .un]) rfl (ds_one (ds_ret (de_op opr_add opd_add de_int (de_blt (cr_maxL rfl hu64) cd_maxL (by rfl) b_max (by decide +kernel) (da_cons (de_op opr_add opd_add (de_lc (own := [("_law_part", 1)]) (g := gName 1) (tt := tYes) rfl sc_l_nested.nd (blkOk_by (N := N_l_nested) (sc := defScope s_l_nested) (by decide +kernel)) (di_any rfl (de_var rfl (pv 0))) (tgt_name (by simp)) (fun ρ d h => nomatch h) test_yes (fun _ _ _ _ _ => pg_name (i := 1) sc_l_nested.nd rfl (Or.inl rfl)) (fun _ _ _ _ _ => pts_nil) (fun _ _ _ _ _ => pe_elt fun F l_part65 ρ' e => by cases e; exact de_at (ρ' := [.v l_value0, .v l_part65]) rfl (de_callC d_l_nested ⟨rfl, rfl, bx.cx.ga, bx.cx.rm⟩ (by omega) takes0 (by rfl) (da_cons (de_var rfl (pv 1)) da_nil)))) (de_lst (da_cons de_int da_nil))) da_nil))))))), rfl⟩
abbrev s_l_told : Stmt := topS 46
abbrev N_l_told : List Str := ["_law_value", "_law_made"]
theorem sc_l_told : FnScope N_l_told ["_law_value"] (defScope s_l_told) := ⟨rfl, rfl, rfl, by decide +kernel, rfl, by decide +kernel, by decide +kernel⟩
def m_l_told (l_value0 : D) : M D := (thenR ((lamM hs_l_met_error (((Pure.pure l_value0) >>= fun x => (Pure.pure []) >>= fun xs => Pure.pure (.v x :: xs)) >>= fun as => g_Formula_init_d as >>= fun fs => Pure.pure (.ins "Formula" fs))) >>= fun d => Pure.pure (.nx d)) fun l_made66 => (((((Pure.pure l_made66) >>= isiC "Formula") >>= boolD) >>= fun x => if x = true then ((Pure.pure l_made66) >>= fun d => insP "Formula" d >>= fun _ => noEx (g_Formula_tree [.v d])) else ((((Pure.pure l_made66) >>= fun x => (Pure.pure (.str "no formula")) >>= fun y => eqD x y) >>= boolD) >>= fun x => if x = true then (Pure.pure .non) else (Pure.pure l_made66))) >>= fun d => Pure.pure (.rt d))) >>= doneF (α := Unit)
def g_l_told : List Ar → M D
  | [.v l_value0] => m_l_told l_value0
  | _ => M.no
theorem c_l_told {as : List Ar} {P : Pot} {ok : D → Pot → Prop} {ex : Ex → Pot → Prop} (h : out (g_l_told as) P ok ex) : ∃ l_value0, as = [.v l_value0] := by
  unfold g_l_told at h; split at h
  · exact ⟨_, rfl⟩
  · exact h.elim
theorem ok_l_told {f : Addr} {fd : FuncData} (Fn : Fun K "_law_told" "_law_told" s_l_told f fd) (b_isinstance : mg "isinstance" = none) (b_repr : mg "repr" = none) (hC_Formula : isCls ⟨mg, K, TT⟩ "Formula") (hT_Formula : InsTy ⟨mg, K, TT⟩ "Formula") {cc_l_told P_l_told : Addr} (A_l_told : LamAt ⟨mg, K, TT⟩ base cc_l_told P_l_told ("_law_told" ++ ".<locals>." ++ "<lambda>")) (hc_l_told : fd.code = .ref cc_l_told) (LX_l_met_error : LamDefX ⟨mg, K, TT⟩ "_law_met_error" "_law_call" hs_l_met_error) (d_Formula_init_d : CalI P w ⟨mg, K, TT⟩ base 19 "Formula" g_Formula_init_d) (d_Formula_tree : CalP P w ⟨mg, K, TT⟩ base 1 "Formula" "tree" g_Formula_tree) : FnG P w K mg base 24 f fd ["_law_value"] (spD ⟨mg, K, TT⟩ g_l_told) := by
  refine fnG_ofC (k := 23) Fn rfl rfl sc_l_told (fun as P ok ex h => by obtain ⟨l_value0, rfl⟩ := c_l_told h; rfl) fun cd A fr s H0 G0 ap E as P0 ok ex hcc h bx => ?_
  obtain ⟨l_value0, rfl⟩ := c_l_told h
  have hu64 := hu_64 bx.cx.rm
  have hu65 := hu_65 bx.cx.rm
  have hu102 := hu_102 bx.cx.rm
  exact ⟨Unit, (fun (a : Unit) => [.un, .un]), _, ds_at (ρ' := [.v l_value0, .un]) rfl (ds_cons (ds_set (i := 1) sc_l_told.nd rfl (Or.inl rfl) (de_lamY ⟨rfl, rfl, bx.cx.ga, bx.cx.rm⟩ (by rfl) LX_l_met_error A_l_told (hcc.trans hc_l_told) (show LamX.lamSB (defScope s_l_told) _ = true from by decide +kernel) (hbody := fun A outer s H E f cq F0 hF bx => de_at (ρ' := [.v l_value0, .un]) rfl (de_makeC d_Formula_init_d ⟨rfl, rfl, bx.cx.ga, bx.cx.rm⟩ (by omega) bx.tk rfl (by rfl) (da_cons (de_var rfl (pv 0)) da_nil))))) fun l_made66 => ds_at (ρ' := [.v l_value0, .v l_made66]) rfl (ds_one (ds_ret (de_if (dt_val (de_isiO ⟨rfl, rfl, bx.cx.ga, bx.cx.rm⟩ hT_Formula hC_Formula rfl (by rfl) b_isinstance (de_var rfl (pv 1)) (by rfl))) (de_propC d_Formula_tree ⟨rfl, rfl, bx.cx.ga, bx.cx.rm⟩ (by omega) (de_var rfl (pv 1))) (de_if (dt_cmp (op_eqD hu64) opd_eq (de_var rfl (pv 1)) de_str) de_non (de_var rfl (pv 1))))))), rfl⟩
abbrev s_law : Stmt := topS 47
abbrev N_law : List Str := ["_law_script", "_law_at", "_law_tall", "_law_turn", "_law_pot_here", "_law_words", "_law_tree_here", "_law_tried", "_law_value", "_law_near", "_law_one"]
theorem sc_law : FnScope N_law ["_law_script"] (defScope s_law) := ⟨rfl, rfl, rfl, by decide +kernel, rfl, by decide +kernel, by decide +kernel⟩
def m_law (l_script0 : D) : M D := (thenR ((((((Pure.pure (.int 1)) >>= fun x => ((((Pure.pure (.int 6)) >>= fun x => ((((Pure.pure l_script0) >>= fun x => (Pure.pure []) >>= fun xs => Pure.pure (.v x :: xs)) >>= fun as => DL.vals as >>= f1 lenD) >>= fun x => (Pure.pure []) >>= fun xs => Pure.pure (.v x :: xs)) >>= fun xs => Pure.pure (.v x :: xs)) >>= fun as => DL.vals as >>= f2 minD) >>= fun x => (Pure.pure []) >>= fun xs => Pure.pure (.v x :: xs)) >>= fun xs => Pure.pure (.v x :: xs)) >>= fun as => DL.vals as >>= f2 maxD) >>= fun x => (Pure.pure []) >>= fun xs => Pure.pure (.v x :: xs)) >>= rng1) >>= fun ds => forF (fun (a67 : Unit) l_at68 => ((((Pure.pure l_script0) >>= fun x => ((Pure.pure l_at68) >>= fun x => (Pure.pure []) >>= fun xs => Pure.pure (.v x :: xs)) >>= fun xs => Pure.pure (.v x :: xs)) >>= g_l_pot) >>= fun ds => withPot ds (thenR ((((((((((((Pure.pure (.str "a")) >>= fun x => ((Pure.pure (.str "odd")) >>= fun x => ((Pure.pure (.str "ends")) >>= fun x => ((Pure.pure (.str "zzzzzzzz")) >>= fun x => ((Pure.pure (.str "nota")) >>= fun x => (Pure.pure []) >>= fun xs => Pure.pure (.v x :: xs)) >>= fun xs => Pure.pure (.v x :: xs)) >>= fun xs => Pure.pure (.v x :: xs)) >>= fun xs => Pure.pure (.v x :: xs)) >>= fun xs => Pure.pure (.v x :: xs)) >>= fun as => DL.vals as >>= mkL) >>= fun x => (Pure.pure []) >>= fun xs => Pure.pure (.v x :: xs)) >>= fun xs => Pure.pure (.p :: xs)) >>= g_l_dealt) >>= fun x => (Pure.pure none) >>= fun l => (((Pure.pure (.int 1)) >>= fun x => ((((Pure.pure (.int 4)) >>= fun x => (Pure.pure []) >>= fun xs => Pure.pure (.v x :: xs)) >>= fun xs => Pure.pure (.p :: xs)) >>= g_l_bit) >>= fun y => addD x y) >>= partD) >>= fun u => sliceD x l u) >>= fun x => (Pure.pure []) >>= fun xs => Pure.pure (.v x :: xs)) >>= fun as => DL.vals as >>= f1 sortD) >>= fun x => (Pure.pure []) >>= fun xs => Pure.pure (.v x :: xs)) >>= fun as => DL.vals as >>= f1 tupleD) >>= fun d => Pure.pure (.nx d)) fun l_words69 => (thenR (((((Pure.pure l_words69) >>= fun x => (Pure.pure []) >>= fun xs => Pure.pure (.v x :: xs)) >>= fun xs => Pure.pure (.p :: xs)) >>= g_l_wide) >>= fun d => Pure.pure (.nx d)) fun l_tree_here70 => (thenR ((((Pure.pure l_tree_here70) >>= fun x => (Pure.pure []) >>= fun xs => Pure.pure (.v x :: xs)) >>= fun as => DL.vals as >>= mkN) >>= fun ds => Pure.pure (.nx ds)) fun l_tried71 => (thenR ((((Pure.pure (.int 18)) >>= fun x => (Pure.pure []) >>= fun xs => Pure.pure (.v x :: xs)) >>= rng1) >>= fun ds => forF (fun (a72 : List D) l_turn73 => (thenR (((((Pure.pure l_tree_here70) >>= fun x => (Pure.pure []) >>= fun xs => Pure.pure (.v x :: xs)) >>= fun xs => Pure.pure (.p :: xs)) >>= (g_l_bent 14)) >>= fun d => Pure.pure (.nx d)) fun l_near74 => (thenR (((((Pure.pure l_turn73) >>= fun x => (Pure.pure (.int 9)) >>= fun y => ltD x y) >>= boolD) >>= fun x => if x = true then (Pure.pure l_near74) else ((((Pure.pure l_near74) >>= fun x => (Pure.pure []) >>= fun xs => Pure.pure (.v x :: xs)) >>= fun xs => Pure.pure (.p :: xs)) >>= (g_l_bent 14))) >>= fun d => if a72.length < sizeLine then Pure.pure (.nx d) else M.no) fun d75 => (Pure.pure (.nx (a72 ++ [d75])))))) ds l_tried71) fun a76 => (thenR (((Pure.pure (.lst a76)) >>= fun x => ((((((Pure.pure l_words69) >>= fun x => (Pure.pure []) >>= fun xs => Pure.pure (.v x :: xs)) >>= fun xs => Pure.pure (.p :: xs)) >>= g_l_wide) >>= fun x => (((((Pure.pure l_words69) >>= fun x => (Pure.pure []) >>= fun xs => Pure.pure (.v x :: xs)) >>= fun xs => Pure.pure (.p :: xs)) >>= g_l_wide) >>= fun x => (Pure.pure []) >>= fun xs => Pure.pure (.v x :: xs)) >>= fun xs => Pure.pure (.v x :: xs)) >>= fun as => DL.vals as >>= mkL) >>= fun y => addL x y) >>= fun ds => Pure.pure (.nx ds)) fun l_tried77 => (thenR (((((Pure.pure (.lst l_tried77)) >>= iterA) >>= fun ds => noEx (compF (fun l_one78 => (((((Pure.pure l_one78) >>= fun x => (Pure.pure []) >>= fun xs => Pure.pure (.v x :: xs)) >>= (g_l_nested 14)) >>= fun x => (Pure.pure (.int 11)) >>= fun y => ltD x y) >>= boolD)) (fun l_one78 => (Pure.pure l_one78)) ds) >>= mkL) >>= iterA) >>= fun ds => forF (fun (a79 : Unit) l_value80 => (thenR ((((((((Pure.pure l_value80) >>= fun x => (Pure.pure []) >>= fun xs => Pure.pure (.v x :: xs)) >>= g_l_told) >>= fun x => (Pure.pure []) >>= fun xs => Pure.pure (.v x :: xs)) >>= fun as => DL.vals as >>= f1 reprN) >>= fun x => (((((((Pure.pure l_value80) >>= fun x => (Pure.pure []) >>= fun xs => Pure.pure (.v x :: xs)) >>= g_l_is_tree) >>= boolD) >>= fun x => if x = true then (Pure.pure l_value80) else (Pure.pure .non)) >>= fun x => (Pure.pure []) >>= fun xs => Pure.pure (.v x :: xs)) >>= fun as => DL.vals as >>= f1 reprN) >>= fun y => neD x y) >>= boolD) >>= fun x => if x = true then ((Pure.pure (.bl false)) >>= fun d => Pure.pure (.rt d)) else (Pure.pure (.nx ()))) fun _ => (Pure.pure (.nx ())))) ds ()) fun _ => (Pure.pure (.nx ())))))))))) ds ()) fun _ => (thenR ((((Pure.pure (.str "name")) >>= fun x => ((Pure.pure (.str "x")) >>= fun x => (Pure.pure []) >>= fun xs => Pure.pure (.v x :: xs)) >>= fun xs => Pure.pure (.v x :: xs)) >>= fun as => DL.vals as >>= mkT) >>= fun d => Pure.pure (.nx d)) fun l_tall84 => (thenR ((((Pure.pure (.int 7)) >>= fun x => (Pure.pure []) >>= fun xs => Pure.pure (.v x :: xs)) >>= rng1) >>= fun ds => forF (fun (a85 : D) l_turn86 => (thenR ((((Pure.pure (.str "not")) >>= fun x => ((Pure.pure a85) >>= fun x => (Pure.pure []) >>= fun xs => Pure.pure (.v x :: xs)) >>= fun xs => Pure.pure (.v x :: xs)) >>= fun as => DL.vals as >>= mkT) >>= fun d => Pure.pure (.nx d)) fun l_tall87 => (Pure.pure (.nx l_tall87)))) ds l_tall84) fun a88 => ((((((((Pure.pure a88) >>= fun x => (Pure.pure []) >>= fun xs => Pure.pure (.v x :: xs)) >>= g_l_told) >>= fun x => (Pure.pure a88) >>= fun y => eqD x y) >>= fun x => ((((((Pure.pure (.str "not")) >>= fun x => ((Pure.pure a88) >>= fun x => (Pure.pure []) >>= fun xs => Pure.pure (.v x :: xs)) >>= fun xs => Pure.pure (.v x :: xs)) >>= fun as => DL.vals as >>= mkT) >>= fun x => (Pure.pure []) >>= fun xs => Pure.pure (.v x :: xs)) >>= g_l_told) >>= fun x => (Pure.pure []) >>= fun xs => Pure.pure (.v x :: xs)) >>= fun xs => Pure.pure (.v x :: xs)) >>= fun as => DL.vals as >>= mkL) >>= fun x => (((Pure.pure (.bl true)) >>= fun x => ((Pure.pure .non) >>= fun x => (Pure.pure []) >>= fun xs => Pure.pure (.v x :: xs)) >>= fun xs => Pure.pure (.v x :: xs)) >>= fun as => DL.vals as >>= mkL) >>= fun y => eqD x y) >>= fun d => Pure.pure (.rt d))))) >>= doneF (α := Unit)
def g_law : List Ar → M D
  | [.v l_script0] => m_law l_script0
  | _ => M.no
theorem c_law {as : List Ar} {P : Pot} {ok : D → Pot → Prop} {ex : Ex → Pot → Prop} (h : out (g_law as) P ok ex) : ∃ l_script0, as = [.v l_script0] := by
  unfold g_law at h; split at h
  · exact ⟨_, rfl⟩
  · exact h.elim
theorem ok_law {f : Addr} {fd : FuncData} (Fn : Fun K "law" "law" s_law f fd) (b_len : mg "len" = none) (b_max : mg "max" = none) (b_min : mg "min" = none) (b_range : mg "range" = none) (b_repr : mg "repr" = none) (b_sorted : mg "sorted" = none) (b_tuple : mg "tuple" = none) (d_l_bent : Cal P w K mg base 17 "_law_bent" (spD ⟨mg, K, TT⟩ (g_l_bent 14))) (d_l_bit : Cal P w K mg base 1 "_law_bit" (spD ⟨mg, K, TT⟩ g_l_bit)) (d_l_dealt : Cal P w K mg base 2 "_law_dealt" (spD ⟨mg, K, TT⟩ g_l_dealt)) (d_l_is_tree : Cal P w K mg base 17 "_law_is_tree" (spD ⟨mg, K, TT⟩ g_l_is_tree)) (d_l_nested : Cal P w K mg base 15 "_law_nested" (spD ⟨mg, K, TT⟩ (g_l_nested 14))) (d_l_pot : Cal P w K mg base 1 "_law_pot" (spF ⟨mg, K, TT⟩ g_l_pot)) (d_l_told : Cal P w K mg base 24 "_law_told" (spD ⟨mg, K, TT⟩ g_l_told)) (d_l_wide : Cal P w K mg base 18 "_law_wide" (spD ⟨mg, K, TT⟩ g_l_wide)) : FnG P w K mg base 25 f fd ["_law_script"] (spD ⟨mg, K, TT⟩ g_law) := by
  refine fnG_of (k := 24) Fn rfl rfl sc_law (fun as P ok ex h => by obtain ⟨l_script0, rfl⟩ := c_law h; rfl) fun cd A fr s H0 G0 ap E as P0 ok ex h bx => ?_
  obtain ⟨l_script0, rfl⟩ := c_law h
  have hu64 := hu_64 bx.cx.rm
  have hu65 := hu_65 bx.cx.rm
  have hu102 := hu_102 bx.cx.rm
  exact ⟨Unit, (fun (a : Unit) => [.un, .un, .un, .un, .un, .un, .un, .un, .un, .un, .un]), _, ds_at (ρ' := [.v l_script0, .un, .un, .un, .un, .un, .un, .un, .un, .un, .un]) rfl (ds_cons (ds_for (E := (fun (a : Unit) => [.v l_script0, .un, .un, .un, .un, .un, .un, .un, .un, .un, .un])) (a₀ := ()) (t := fun (a : Unit) d => some (((fun (a : Unit) => [.v l_script0, .un, .un, .un, .un, .un, .un, .un, .un, .un, .un]) a).set 1 (.v d))) bx.own rfl (Rel.fogL (.k (.k (.k (.k (.k (.k (.k (.k (.k (.k (.k FogL.n)))))))))))) (di_rng1 (by rfl) b_range (da_cons (de_blt (DL.cr_max rfl) cd_max (by rfl) b_max (by decide +kernel) (da_cons de_int (da_cons (de_blt (DL.cr_min rfl) cd_min (by rfl) b_min (by decide +kernel) (da_cons de_int (da_cons (de_blt cr_len cd_len (by rfl) b_len (by decide +kernel) (da_cons (de_var rfl (pv 0)) da_nil)) da_nil))) da_nil))) da_nil)) (pg_ex fun a => dg_name (i := 1) sc_law.nd rfl (Or.inl rfl)) (fun a d h => nomatch h) (pss_for fun a67 l_at68 ρ' e => by cases e; exact ds_at (ρ' := [.v l_script0, .v l_at68, .un, .un, .un, .un, .un, .un, .un, .un, .un]) rfl (ds_pot (E2 := (fun (a : Unit) => [.v l_script0, .un, .un, .un, .p, .un, .un, .un, .un, .un, .un])) (i := 4) sc_law.nd rfl (Or.inl rfl) (de_callCF d_l_pot ⟨rfl, rfl, bx.cx.ga, bx.cx.rm⟩ (by decide) bx.tk (by rfl) (da_cons (de_var rfl (pv 0)) (da_cons (de_var rfl (pv 1)) da_nil))) (fun a => ds_at (ρ' := [.v l_script0, .v l_at68, .un, .un, .p, .un, .un, .un, .un, .un, .un]) rfl (ds_cons (ds_set (i := 5) sc_law.nd rfl (Or.inl rfl) (de_ty cr_tuple cd_tuple (by rfl) b_tuple (by decide +kernel) (da_cons (de_blt (SX.cr_sortD hu64) cd_sortD (by rfl) b_sorted (by decide +kernel) (da_cons (de_slice rfl (de_callC d_l_dealt ⟨rfl, rfl, bx.cx.ga, bx.cx.rm⟩ (by omega) bx.tk (by rfl) (da_pot rfl (pv 4) (da_cons (de_lst (da_cons de_str (da_cons de_str (da_cons de_str (da_cons de_str (da_cons de_str da_nil)))))) da_nil))) do_none (do_some (de_op opr_add opd_add de_int (de_callC d_l_bit ⟨rfl, rfl, bx.cx.ga, bx.cx.rm⟩ (by omega) bx.tk (by rfl) (da_pot rfl (pv 4) (da_cons de_int da_nil)))))) da_nil)) da_nil))) fun l_words69 => ds_at (ρ' := [.v l_script0, .v l_at68, .un, .un, .p, .v l_words69, .un, .un, .un, .un, .un]) rfl (ds_cons (ds_set (i := 6) sc_law.nd rfl (Or.inl rfl) (de_callC d_l_wide ⟨rfl, rfl, bx.cx.ga, bx.cx.rm⟩ (by omega) bx.tk (by rfl) (da_pot rfl (pv 4) (da_cons (de_var rfl (pv 5)) da_nil)))) fun l_tree_here70 => ds_at (ρ' := [.v l_script0, .v l_at68, .un, .un, .p, .v l_words69, .v l_tree_here70, .un, .un, .un, .un]) rfl (ds_cons (ds_ownLst (i := 7) sc_law.nd rfl (Or.inl rfl) (da_cons (de_var rfl (pv 6)) da_nil)) fun l_tried71 => ds_at (ρ' := [.v l_script0, .v l_at68, .un, .un, .p, .v l_words69, .v l_tree_here70, .o (.l l_tried71), .un, .un, .un]) rfl (ds_cons (ds_for (E := (fun (a : List D) => [.v l_script0, .v l_at68, .un, .un, .p, .v l_words69, .v l_tree_here70, .o (.l a), .un, .un, .un])) (a₀ := l_tried71) (t := fun (a : List D) d => some (((fun (a : List D) => [.v l_script0, .v l_at68, .un, .un, .p, .v l_words69, .v l_tree_here70, .o (.l a), .un, .un, .un]) a).set 3 (.v d))) bx.own rfl (Rel.fogL (.k (.k (.k (.k (.k (.k (.k (.k (.k (.k (.k FogL.n)))))))))))) (di_rng1 (by rfl) b_range (da_cons de_int da_nil)) (pg_ex fun a => dg_name (i := 3) sc_law.nd rfl (Or.inl rfl)) (fun a d h => nomatch h) (pss_for fun a72 l_turn73 ρ' e => by cases e; exact ds_at (ρ' := [.v l_script0, .v l_at68, .un, .v l_turn73, .p, .v l_words69, .v l_tree_here70, .o (.l a72), .un, .un, .un]) rfl (ds_cons (ds_set (i := 9) sc_law.nd rfl (Or.inl rfl) (de_callC d_l_bent ⟨rfl, rfl, bx.cx.ga, bx.cx.rm⟩ (by omega) bx.tk (by rfl) (da_pot rfl (pv 4) (da_cons (de_var rfl (pv 6)) da_nil)))) fun l_near74 => ds_at (ρ' := [.v l_script0, .v l_at68, .un, .v l_turn73, .p, .v l_words69, .v l_tree_here70, .o (.l a72), .un, .v l_near74, .un]) rfl (ds_cons (ds_append (i := 7) rfl rfl (pv 7) (de_if (dt_cmp opr_lt opd_lt (de_var rfl (pv 3)) de_int) (de_var rfl (pv 9)) (de_callC d_l_bent ⟨rfl, rfl, bx.cx.ga, bx.cx.rm⟩ (by omega) bx.tk (by rfl) (da_pot rfl (pv 4) (da_cons (de_var rfl (pv 9)) da_nil))))) fun d75 => ds_at (ρ' := [.v l_script0, .v l_at68, .un, .v l_turn73, .p, .v l_words69, .v l_tree_here70, .o (.l (a72 ++ [d75])), .un, .v l_near74, .un]) rfl (ds_end (a := (a72 ++ [d75])) (.k (.k (.k (.u (.k (.k (.k (.k (.k (.u (.k FogL.n)))))))))))))))) fun a76 => ds_at (ρ' := [.v l_script0, .v l_at68, .un, .un, .p, .v l_words69, .v l_tree_here70, .o (.l a76), .un, .un, .un]) rfl (ds_letgo (i := 7) rfl (ds_at (ρ' := [.v l_script0, .v l_at68, .un, .un, .p, .v l_words69, .v l_tree_here70, .v (.lst a76), .un, .un, .un]) rfl (ds_cons (ds_ownAdd (i := 7) sc_law.nd rfl (Or.inl rfl) (de_var rfl (pv 7)) (de_lst (da_cons (de_callC d_l_wide ⟨rfl, rfl, bx.cx.ga, bx.cx.rm⟩ (by omega) bx.tk (by rfl) (da_pot rfl (pv 4) (da_cons (de_var rfl (pv 5)) da_nil))) (da_cons (de_callC d_l_wide ⟨rfl, rfl, bx.cx.ga, bx.cx.rm⟩ (by omega) bx.tk (by rfl) (da_pot rfl (pv 4) (da_cons (de_var rfl (pv 5)) da_nil))) da_nil)))) fun l_tried77 => ds_at (ρ' := [.v l_script0, .v l_at68, .un, .un, .p, .v l_words69, .v l_tree_here70, .o (.l l_tried77), .un, .un, .un]) rfl (ds_letgo (i := 7) rfl (ds_at (ρ' := [.v l_script0, .v l_at68, .un, .un, .p, .v l_words69, .v l_tree_here70, .v (.lst l_tried77), .un, .un, .un]) rfl (ds_cons (ds_for (E := (fun (a : Unit) => [.v l_script0, .v l_at68, .un, .un, .p, .v l_words69, .v l_tree_here70, .v (.lst l_tried77), .un, .un, .un])) (a₀ := ()) (t := fun (a : Unit) d => some (((fun (a : Unit) => [.v l_script0, .v l_at68, .un, .un, .p, .v l_words69, .v l_tree_here70, .v (.lst l_tried77), .un, .un, .un]) a).set 8 (.v d))) bx.own rfl (Rel.fogL (.k (.k (.k (.k (.k (.k (.k (.k (.k (.k (.k FogL.n)))))))))))) (di_any rfl (de_lc (own := [("_law_one", 10)]) (g := gName 10)  rfl sc_law.nd (blkOk_by (N := N_law) (sc := defScope s_law) (by decide +kernel)) (di_any rfl (de_var rfl (pv 7))) (tgt_name (by simp)) (fun ρ d h => nomatch h) test_rd (fun _ _ _ _ _ => pg_name (i := 10) sc_law.nd rfl (Or.inl rfl)) (fun _ _ _ _ _ => pts_one (pt_tst fun F l_one78 ρ' e => by cases e; exact dt_at (ρ' := [.v l_script0, .v l_at68, .un, .un, .p, .v l_words69, .v l_tree_here70, .v (.lst l_tried77), .un, .un, .v l_one78]) rfl (dt_cmp opr_lt opd_lt (de_callC d_l_nested ⟨rfl, rfl, bx.cx.ga, bx.cx.rm⟩ (by omega) takes0 (by rfl) (da_cons (de_var rfl (pv 10)) da_nil)) de_int))) (fun _ _ _ _ _ => pe_elt fun F l_one78 ρ' e => by cases e; exact de_at (ρ' := [.v l_script0, .v l_at68, .un, .un, .p, .v l_words69, .v l_tree_here70, .v (.lst l_tried77), .un, .un, .v l_one78]) rfl (de_var rfl (pv 10))))) (pg_ex fun a => dg_name (i := 8) sc_law.nd rfl (Or.inl rfl)) (fun a d h => nomatch h) (pss_for fun a79 l_value80 ρ' e => by cases e; exact ds_at (ρ' := [.v l_script0, .v l_at68, .un, .un, .p, .v l_words69, .v l_tree_here70, .v (.lst l_tried77), .v l_value80, .un, .un]) rfl (ds_cons (ds_if (E := (fun (a : Unit) => [.v l_script0, .v l_at68, .un, .un, .p, .v l_words69, .v l_tree_here70, .v (.lst l_tried77), .v l_value80, .un, .un])) (dt_cmp (op_neD hu64) opd_ne (de_blt (cr_reprN bx.cx.ga hu102) cd_reprN (by rfl) b_repr (by decide +kernel) (da_cons (de_callC d_l_told ⟨rfl, rfl, bx.cx.ga, bx.cx.rm⟩ (by omega) bx.tk (by rfl) (da_cons (de_var rfl (pv 8)) da_nil)) da_nil)) (de_blt (cr_reprN bx.cx.ga hu102) cd_reprN (by rfl) b_repr (by decide +kernel) (da_cons (de_if (dt_val (de_callC d_l_is_tree ⟨rfl, rfl, bx.cx.ga, bx.cx.rm⟩ (by omega) bx.tk (by rfl) (da_cons (de_var rfl (pv 8)) da_nil))) (de_var rfl (pv 8)) de_non) da_nil))) (ds_one (ds_ret de_bl)) (ds_end (a := ()) (.k (.k (.k (.k (.k (.k (.k (.k (.k (.k (.k FogL.n))))))))))))) fun _ => ds_at (ρ' := [.v l_script0, .v l_at68, .un, .un, .p, .v l_words69, .v l_tree_here70, .v (.lst l_tried77), .v l_value80, .un, .un]) rfl (ds_end (a := ()) (.k (.k (.k (.k (.k (.k (.k (.k (.u (.k (.k FogL.n))))))))))))))) fun _ => ds_at (ρ' := [.v l_script0, .v l_at68, .un, .un, .p, .v l_words69, .v l_tree_here70, .v (.lst l_tried77), .un, .un, .un]) rfl (ds_end (a := ()) (.k (.u (.k (.k (.k (.u (.u (.u (.k (.k (.k FogL.n))))))))))))))))))))))) (fun _ => rfl)))) fun _ => ds_at (ρ' := [.v l_script0, .un, .un, .un, .un, .un, .un, .un, .un, .un, .un]) rfl (ds_cons (ds_set (i := 2) sc_law.nd rfl (Or.inl rfl) (de_tup (da_cons de_str (da_cons de_str da_nil)))) fun l_tall84 => ds_at (ρ' := [.v l_script0, .un, .v l_tall84, .un, .un, .un, .un, .un, .un, .un, .un]) rfl (ds_cons (ds_for (E := (fun (a : D) => [.v l_script0, .un, .v a, .un, .un, .un, .un, .un, .un, .un, .un])) (a₀ := l_tall84) (t := fun (a : D) d => some (((fun (a : D) => [.v l_script0, .un, .v a, .un, .un, .un, .un, .un, .un, .un, .un]) a).set 3 (.v d))) bx.own rfl (Rel.fogL (.k (.k (.k (.k (.k (.k (.k (.k (.k (.k (.k FogL.n)))))))))))) (di_rng1 (by rfl) b_range (da_cons de_int da_nil)) (pg_ex fun a => dg_name (i := 3) sc_law.nd rfl (Or.inl rfl)) (fun a d h => nomatch h) (pss_for fun a85 l_turn86 ρ' e => by cases e; exact ds_at (ρ' := [.v l_script0, .un, .v a85, .v l_turn86, .un, .un, .un, .un, .un, .un, .un]) rfl (ds_cons (ds_set (i := 2) sc_law.nd rfl (Or.inl rfl) (de_tup (da_cons de_str (da_cons (de_var rfl (pv 2)) da_nil)))) fun l_tall87 => ds_at (ρ' := [.v l_script0, .un, .v l_tall87, .v l_turn86, .un, .un, .un, .un, .un, .un, .un]) rfl (ds_end (a := l_tall87) (.k (.k (.k (.u (.k (.k (.k (.k (.k (.k (.k FogL.n))))))))))))))) fun a88 => ds_at (ρ' := [.v l_script0, .un, .v a88, .un, .un, .un, .un, .un, .un, .un, .un]) rfl (ds_one (ds_ret (de_cmp (op_eqD hu64) opd_eq (de_lst (da_cons (de_cmp (op_eqD hu64) opd_eq (de_callC d_l_told ⟨rfl, rfl, bx.cx.ga, bx.cx.rm⟩ (by omega) bx.tk (by rfl) (da_cons (de_var rfl (pv 2)) da_nil)) (de_var rfl (pv 2))) (da_cons (de_callC d_l_told ⟨rfl, rfl, bx.cx.ga, bx.cx.rm⟩ (by omega) bx.tk (by rfl) (da_cons (de_tup (da_cons de_str (da_cons (de_var rfl (pv 2)) da_nil))) da_nil)) da_nil))) (de_lst (da_cons de_bl (da_cons de_non da_nil))))))))), rfl⟩
end
end KX
namespace KX
open PySem PySem.Spec PyProof.Rows L2 DL
open Builtin.Int (intBits)
def plain (l : List Nat) : Bool := l.all fun c => decide (97 ≤ c) && decide (c ≤ 122)
theorem cps_a : (Str.ofString "a").cps.toList = [97] := by decide +kernel
theorem cps_z : (Str.ofString "z").cps.toList = [122] := by decide +kernel
theorem one_lt {c d : Nat} : decide (([c] : List Nat) < [d]) = decide (c < d) := by
  by_cases h : c < d
  · rw [decide_eq_true h]; exact decide_eq_true (SX.ltT_sgl.mpr h)
  · rw [decide_eq_false h]; exact decide_eq_false fun k => h (SX.ltT_sgl.mp k)
theorem lt_a (c : Nat) : ltS ⟨#[c]⟩ (Str.ofString "a") = decide (c < 97) := by
  unfold ltS; rw [cps_a]; exact one_lt
theorem lt_z (c : Nat) : ltS (Str.ofString "z") ⟨#[c]⟩ = decide (122 < c) := by
  unfold ltS; rw [cps_z]; exact one_lt
theorem iter_str (x : Str) : iterA (.str x) = Pure.pure (chrs x) := Eq.trans rfl rfl
theorem bls_map (l : List Nat) (f : Nat → Bool) : bls (l.map fun a => .bl (f a)) = some (l.map f) := by
  induction l with
  | nil => rfl
  | cons a l ih => show (bls _).map _ = _; rw [ih]; rfl
theorem le_str (x y : Str) : leD (.str x) (.str y) = Pure.pure (.bl (!ltS y x)) := Eq.trans rfl rfl
abbrev cl (x : Str) : List Nat := x.cps.toList
theorem cl_len (x : Str) : (cl x).length = x.cps.size := Array.length_toList
theorem len_e {x : Str} (h : x.cps.size ≤ sizeLine) : lenD (.str x) = Pure.pure (.int ((cl x).length : Nat)) := by
  show (if x.length ≤ sizeLine then Pure.pure (D.int (x.length : Nat)) else M.no) = _
  have e : x.length = x.cps.size := rfl
  rw [if_pos (show x.length ≤ sizeLine from h), e, cl_len]
theorem le_int (i j : Int) : leD (.int i) (.int j) = Pure.pure (.bl (decide (i ≤ j))) := Eq.trans rfl rfl
theorem lt_int (i j : Int) : ltD (.int i) (.int j) = Pure.pure (.bl (decide (i < j))) := Eq.trans rfl rfl
theorem gt_int (i j : Int) : gtD (.int i) (.int j) = Pure.pure (.bl (decide (j < i))) := Eq.trans rfl rfl
theorem chain_int (a n b : Int) : chainM (Pure.pure (.int a)) (Pure.pure (.int n)) (Pure.pure (.int b)) leD leD = Pure.pure (.bl (decide (a ≤ n) && decide (n ≤ b))) := by
  unfold chainM
  simp only [pb, le_int, bB]
  by_cases h : a ≤ n
  · rw [decide_eq_true h, ittr, Bool.true_and]
  · rw [decide_eq_false h, itfa, Bool.false_and]
theorem is_str (x : Str) (T : String) : isiD T (.str x) = Pure.pure (.bl (isB "str" T)) := isi_is T rfl
theorem eq_int (i j : Int) : eqD (.int i) (.int j) = Pure.pure (.bl (i == j)) := by
  show (if SeqAt.shaped (.int i) = true ∧ SeqAt.shaped (.int j) = true then Pure.pure (D.bl (PyData.eqv (.int i) (.int j))) else M.no) = _
  rw [if_pos ⟨rfl, rfl⟩]
  rfl
theorem shaped_str {x : Str} (h : PyData.canLay0 (.str x) = true) : SeqAt.shaped (.str x) = true := by
  unfold SeqAt.shaped; rw [h]; rfl
theorem eq_str {x y : Str} (hx : PyData.canLay0 (.str x) = true) (hy : PyData.canLay0 (.str y) = true) : eqD (.str x) (.str y) = Pure.pure (.bl (x == y)) := by
  show (if SeqAt.shaped (.str x) = true ∧ SeqAt.shaped (.str y) = true then Pure.pure (D.bl (PyData.eqv (.str x) (.str y))) else M.no) = _
  rw [if_pos ⟨shaped_str hx, shaped_str hy⟩]
  rfl
theorem toPys_strs (ys : List Str) : toPys (ys.map .str) = some (ys.map .str) := by
  induction ys with
  | nil => rfl
  | cons y ys ih => show (match toPy (.str y), toPys _ with | some d, some ds => some (d :: ds) | _, _ => none) = _; rw [ih]; rfl
theorem lay_strs {ys : List Str} (h : ∀ y ∈ ys, PyData.canLay0 (.str y) = true) : PyData.canLayAll0 (ys.map .str) = true ∧ PyData.depthAll (ys.map .str) = 0 := by
  induction ys with
  | nil => exact ⟨rfl, rfl⟩
  | cons y ys ih =>
    obtain ⟨a, b⟩ := ih fun z hz => h z (List.mem_cons_of_mem _ hz)
    exact ⟨by show (PyData.canLay0 (.str y) && PyData.canLayAll0 _) = true; rw [h y List.mem_cons_self, a]; rfl, by show max 0 (PyData.depthAll _) = 0; rw [b]; rfl⟩
structure Fine (x : Str) : Prop where
  sz : x.cps.size < 4000
  cp : ∀ c ∈ cl x, c < 1114112
theorem Fine.line {x : Str} (h : Fine x) : x.cps.size ≤ sizeLine := by
  have := h.sz
  rw [sizeLine_eq]; omega
theorem strOk_of {x : Str} (h : ∀ c ∈ cl x, c < 1114112) : PyData.canLay0 (.str x) = true := by
  have e : PyData.canLay0 (.str x) = x.cps.all (· < 1114112) := rfl
  rw [e, ← Array.all_toList, List.all_eq_true]
  exact fun c hc => decide_eq_true (h c hc)
theorem Fine.ok {x : Str} (h : Fine x) : PyData.canLay0 (.str x) = true := strOk_of h.cp
theorem abs_e (i : Int) : absD (.int i) = Pure.pure (.int (if i < 0 then -i else i)) := Eq.trans rfl rfl
theorem abs_nat (i : Int) : (if i < 0 then -i else i) = (i.natAbs : Int) := by split <;> omega
theorem mul_ok {i j : Int} (h : CMulX i j) : mulD (.int i) (.int j) = Pure.pure (.int (i * j)) := if_pos h
theorem pow_ok {i j : Int} (h : CPowX i j) : powD (.int i) (.int j) = Pure.pure (.int (i ^ j.toNat)) := if_pos h
theorem mod_ok {i j : Int} (h : 0 < j) : modD (.int i) (.int j) = Pure.pure (.int (i % j)) := if_pos h
theorem add_ii (i j : Int) : addD (.int i) (.int j) = Pure.pure (.int (i + j)) := Eq.trans rfl rfl
theorem sub_ii (i j : Int) : subD (.int i) (.int j) = Pure.pure (.int (i - j)) := Eq.trans rfl rfl
theorem bits10 : intBits 10 = 4 := by decide +kernel
theorem run_pure {α : Type} (a : α) (P : Pot) : (Pure.pure a : M α) P = .ok a P := Eq.trans rfl rfl
theorem run_bind {α β : Type} (m : M α) (k : α → M β) (P : Pot) : (m >>= k) P = match m P with
  | .ok a p' => k a p'
  | .ex e p' => .ex e p'
  | .no => .no := Eq.trans rfl rfl
theorem bits_small {i : Int} {n : Nat} (h : i.natAbs < 2 ^ n) : Builtin.Int.intBits i ≤ n := PyProof.Rows.intBits_le h
theorem bit_ok {n a x y : Int} (hn : 0 < n) (hn2 : n.natAbs.log2 < 9000) (ha : 0 ≤ a) (hx : 0 ≤ x ∧ x < 2 ^ 61) (hy : 0 ≤ y ∧ y < 2 ^ 40) :
    ∃ r a' y', m_l_bit (.int n) (some [.int a, .int x, .int y]) = .ok (.int r) (some [.int a', .int x, .int y']) ∧ 0 ≤ r ∧ r < n ∧ 0 ≤ a' ∧ a' ≤ a ∧ y ≤ y' ∧ y' ≤ y + 1 := by
  have g0 : ∀ (p q r : D), potGet (.int 0) (some [p, q, r]) = .ok p (some [p, q, r]) := fun _ _ _ => Eq.trans rfl rfl
  have g1 : ∀ (p q r : D), potGet (.int 1) (some [p, q, r]) = .ok q (some [p, q, r]) := fun _ _ _ => Eq.trans rfl rfl
  have g2 : ∀ (p q r : D), potGet (.int 2) (some [p, q, r]) = .ok r (some [p, q, r]) := fun _ _ _ => Eq.trans rfl rfl
  have s0 : ∀ (p q r d : D), potSet (.int 0) d (some [p, q, r]) = .ok () (some [d, q, r]) := fun _ _ _ _ => Eq.trans rfl rfl
  have s2 : ∀ (p q r d : D), potSet (.int 2) d (some [p, q, r]) = .ok () (some [p, q, d]) := fun _ _ _ _ => Eq.trans rfl rfl
  by_cases h : a > 0
  · have e : m_l_bit (.int n) (some [.int a, .int x, .int y]) = .ok (.int (a % n)) (some [.int (a / n), .int x, .int y]) := by
      unfold m_l_bit
      simp only [pure_bind, bind_assoc, run_bind, run_pure, thenR, g0, gtD, ordD, boolD, decide_eq_true h, if_true, vals, f1, intOf, modD, DL.intD, hn, fdivD, CDivW, hn2, and_self, s0, doneF]
    exact ⟨_, _, _, e, Int.emod_nonneg _ (by omega), Int.emod_lt_of_pos _ hn, Int.ediv_nonneg ha (by omega), Int.ediv_le_self _ ha, Int.le_refl _, by omega⟩
  · have mul1 : CMulX 1000453 (y + 1) := by
      unfold CMulX
      have h1 := bits_small (i := 1000453) (n := 20) (by decide)
      have h2 := bits_small (i := y + 1) (n := 41) (by omega)
      omega
    have mul2 : CMulX 9103 (y + 1) := by
      unfold CMulX
      have h1 := bits_small (i := 9103) (n := 20) (by decide)
      have h2 := bits_small (i := y + 1) (n := 41) (by omega)
      omega
    have small : ∀ i : Int, 0 ≤ i → i < 2305843009213693951 → Builtin.Int.intBits i ≤ 61 := fun i h1 h2 => bits_small (by omega)
    let f1' := (x + 1000453 * (y + 1)) % 2305843009213693951
    have f0 : 0 ≤ f1' := Int.emod_nonneg _ (by decide)
    have fl : f1' < 2305843009213693951 := Int.emod_lt_of_pos _ (by decide)
    have mul3 : CMulX f1' f1' := by
      unfold CMulX
      have := small _ f0 fl
      omega
    have g0' : 0 ≤ f1' * f1' % 2305843009213693921 := Int.emod_nonneg _ (by decide)
    have gl' : f1' * f1' % 2305843009213693921 < 2305843009213693921 := Int.emod_lt_of_pos _ (by decide)
    have mul4 : CMulX (f1' * f1' % 2305843009213693921) f1' := by
      unfold CMulX
      have h1 := small _ f0 fl
      have h2 := small _ g0' (by omega)
      omega
    have l2 : (16384 : Int).natAbs.log2 < 9000 := by decide
    have e : m_l_bit (.int n) (some [.int a, .int x, .int y]) = .ok (.int ((f1' * f1' % 2305843009213693921 * f1' + 9103 * (y + 1)) % 2305843009213693907 / 16384 % n)) (some [.int a, .int x, .int (y + 1)]) := by
      unfold m_l_bit
      have p1 : (0 : Int) < 2305843009213693951 := by decide
      have p2 : (0 : Int) < 2305843009213693921 := by decide
      have p3 : (0 : Int) < 2305843009213693907 := by decide
      have p4 : (0 : Int) < 16384 := by decide
      simp only [pure_bind, bind_assoc, run_bind, run_pure, thenR, g0, g1, g2, s2, gtD, ordD, boolD, decide_eq_false h, Bool.false_eq_true, if_false, vals, f1, intOf, addD, mulD, modD, DL.intD, hn, fdivD, CDivW, hn2, and_self, if_true, doneF, mul1, mul2, mul3, mul4, p1, p2, p3, p4, l2, f1']
    exact ⟨_, _, _, e, Int.emod_nonneg _ (by omega), Int.emod_lt_of_pos _ hn, ha, Int.le_refl _, by omega, by omega⟩
def PO (n : Int) (P : Pot) : Prop := ∃ a x y, P = some [.int a, .int x, .int y] ∧ 0 ≤ a ∧ (0 ≤ x ∧ x < 2 ^ 61) ∧ 0 ≤ y ∧ y ≤ n
theorem PO.mono {n m : Int} {P : Pot} (h : PO n P) (k : n ≤ m) : PO m P := by
  obtain ⟨a, x, y, e, h1, h2, h3, h4⟩ := h
  exact ⟨a, x, y, e, h1, h2, h3, Int.le_trans h4 k⟩
theorem bit_w {n k : Int} {P : Pot} (h : PO n P) (hn : n < 2 ^ 39) (hk : 0 < k) (hl : k.natAbs.log2 < 9000) : wp (g_l_bit [.p, .v (.int k)]) P fun d P' => ∃ r, d = .int r ∧ 0 ≤ r ∧ r < k ∧ PO (n + 1) P' := by
  obtain ⟨a, x, y, rfl, ha, hx, h0, hy⟩ := h
  obtain ⟨r, a', y', e, h1, h2, h3, h4, h5, h6⟩ := bit_ok (n := k) (a := a) (x := x) (y := y) hk hl ha hx ⟨h0, by omega⟩
  exact ⟨.int r, _, e, r, rfl, h1, h2, a', x, y', rfl, h3, hx, by omega, by omega⟩
theorem fB {α β : Type} (m : M α) (f : α → M (Fl β)) (k : β → M (List D)) : thenF (m >>= f) k = (m >>= fun x => thenF (f x) k) := bind_assoc m f _
theorem fN {α : Type} (a : α) (k : α → M (List D)) : thenF (Pure.pure (.nx a)) k = k a := Eq.trans rfl rfl
def P61 : Int := 10 ^ 61
def P671 : Int := P61 ^ (11 : Int).toNat
theorem P61_pos : 0 < P61 := by unfold P61; exact Int.pow_pos (by decide)
theorem P671_pos : 0 < P671 := by unfold P671; exact Int.pow_pos P61_pos
theorem pow_61 : powD (.int 10) (.int 61) = Pure.pure (.int P61) := pow_ok (i := 10) (j := 61) (by unfold CPowX; rw [bits10]; decide)
theorem pow_671 : powD (.int P61) (.int 11) = Pure.pure (.int P671) := by
  have h : CPowX P61 11 := by
    unfold CPowX
    have : intBits P61 ≤ 203 := PySem.intBits_le_iff.mpr (by decide +kernel)
    omega
  exact pow_ok h
def P18 : Int := 10 ^ 18
theorem pow_18 : powD (.int 10) (.int 18) = Pure.pure (.int P18) := pow_ok (i := 10) (j := 18) (by unfold CPowX; rw [bits10]; decide)
theorem int_of (i : Int) : intOf (.int i) = Pure.pure (.int i) := Eq.trans rfl rfl
theorem int_bl (b : Bool) : intOf (.bl b) = Pure.pure (.int (if b then 1 else 0)) := Eq.trans rfl rfl
theorem len_scr (ns : List Int) : lenD (.scr ns) = Pure.pure (.int (ns.length : Nat)) := Eq.trans rfl rfl
theorem ix_scr {ns : List Int} {i : Int} {z : Int} (h : atI ns i = some z) : ixD (.scr ns) (.int i) = Pure.pure (.int z) := by
  show M.some ((atI ns i).map D.int) = _
  rw [h]; exact Eq.trans rfl rfl
theorem atI_nat {α : Type} {xs : List α} {i : Int} (h0 : 0 ≤ i) (h : i < xs.length) : ∃ z, atI xs i = some z ∧ z ∈ xs := by
  have hi : i.toNat < xs.length := by omega
  refine ⟨xs[i.toNat], ?_, List.getElem_mem hi⟩
  unfold atI ixN
  rw [if_pos h0, if_pos h]
  exact List.getElem?_eq_getElem hi
theorem max_e (i j : Int) : maxD (.int i) (.int j) = Pure.pure (.int (if j > i then j else i)) := Eq.trans rfl rfl
theorem mkN_e {ds : List D} (h : ds.length ≤ sizeLine) : mkN ds = Pure.pure ds := if_pos h
theorem small_mul {i j : Int} {m n : Nat} (hi : i.natAbs < 2 ^ m) (hj : j.natAbs < 2 ^ n) (h : m + n ≤ 134217728) : CMulX i j := by
  unfold CMulX
  have h1 := PySem.intBits_le_iff.mpr hi
  have h2 := PySem.intBits_le_iff.mpr hj
  omega
theorem cell_e {ns : List Int} {i : Int} {β : Type} (h0 : 0 ≤ i) (z0 : Int) :
    ∃ c, ∀ k : D → M β, (ltD (.int i) (.int (ns.length : Nat)) >>= fun x => boolD x >>= fun x => (if x = true then ixD (.scr ns) (.int i) else Pure.pure (.int z0)) >>= k) = k (.int c) := by
  by_cases h : i < (ns.length : Int)
  · obtain ⟨z, e, _⟩ := atI_nat (xs := ns) h0 h
    exact ⟨z, fun k => by rw [lt_int, pb, bB, pb, decide_eq_true h, ittr, ix_scr e, pb]⟩
  · exact ⟨z0, fun k => by rw [lt_int, pb, bB, pb, decide_eq_false h, itfa, pb]⟩
theorem pot_e {ns : List Int} {i : Int} (h0 : 0 ≤ i) (hi : i < 64) : ∃ a x, g_l_pot [.v (.scr ns), .v (.int i)] = Pure.pure [.int a, .int x, .int 0] ∧ 0 ≤ a ∧ (0 ≤ x ∧ x < 2 ^ 61) := by
  show ∃ a x, m_l_pot (.scr ns) (.int i) = _ ∧ _
  unfold m_l_pot
  have m1 : CMulX 67 i := small_mul (m := 7) (n := 7) (by decide) (by omega) (by decide)
  have m2 : CMulX 9413 i := small_mul (m := 14) (n := 7) (by decide) (by omega) (by decide)
  simp only [pb, asc, fB, v0, v1, f1e, len_scr, mul_ok m1, add_ii]
  obtain ⟨c, e⟩ := cell_e (β := List D) (ns := ns) h0 (67 * i + 37)
  rw [e, fN]
  simp only [abs_e, abs_nat, pb, int_of, pow_61, pow_671, mod_ok P671_pos, fN]
  generalize hg : (c.natAbs : Int) % P671 = g
  have g0 : 0 ≤ g := hg ▸ Int.emod_nonneg _ (by have := P671_pos; omega)
  have p1 : (0 : Int) < 2147483249 := by decide
  have p2 : (0 : Int) < 2305843009213693907 := by decide
  simp only [mod_ok p1, pb]
  generalize hb : g % 2147483249 = b
  have b0 : 0 ≤ b := hb ▸ Int.emod_nonneg _ (by decide)
  have b1 : b < 2147483249 := hb ▸ Int.emod_lt_of_pos _ (by decide)
  have m3 : CMulX b 96293 := small_mul (m := 31) (n := 17) (by omega) (by decide) (by decide)
  simp only [mul_ok m3, mul_ok m2, pb, add_ii, lt_int, int_bl]
  generalize hk : (if decide (c < 0) = true then (1 : Int) else 0) = k
  have k0 : k = 0 ∨ k = 1 := by rw [← hk]; split <;> simp
  have m4 : CMulX 47 k := small_mul (m := 6) (n := 1) (by decide) (by omega) (by decide)
  simp only [mul_ok m4, pb, add_ii, fN, pow_18, sub_ii, f2e, max_e, int_of, mod_ok p2]
  generalize b * 96293 + 9413 * i + 47 * k + 73 = z
  refine ⟨_, _, mkN_e (by rw [sizeLine_eq]; simp), ?_, Int.emod_nonneg _ (by decide), ?_⟩
  · split <;> omega
  · have := Int.emod_lt_of_pos z p2
    omega
theorem pick_w {n : Int} {P : Pot} {ds : List D} (h : PO n P) (hn : n < 2 ^ 39) (hl : 0 < ds.length) (hs : ds.length < 4000) : wp (g_l_pick [.p, .v (.lst ds)]) P fun d P' => d ∈ ds ∧ PO (n + 1) P' := by
  show wp (m_l_pick (.lst ds)) P _
  unfold m_l_pick
  have e1 : lenD (.lst ds) = Pure.pure (.int (ds.length : Nat)) := Eq.trans rfl rfl
  simp only [pb, asc, v0, v1, f1e, e1]
  have lg : ((ds.length : Nat) : Int).natAbs.log2 < 9000 := by
    rw [Int.natAbs_natCast]
    exact Nat.lt_trans ((Nat.log2_lt (by omega)).mpr (show ds.length < 2 ^ 12 by omega)) (by decide)
  refine wp_bind (wp_mono (bit_w h hn (by omega) lg) fun d P' ⟨r, e, r0, r1, q⟩ => ?_)
  subst e
  obtain ⟨z, e1, e2⟩ := atI_nat (xs := ds) r0 r1
  have e3 : ixD (.lst ds) (.int r) = Pure.pure z := by
    show M.some (atI ds r) = _
    rw [e1]; exact Eq.trans rfl rfl
  rw [e3]
  simp only [pb, dR]
  exact wp_pure ⟨e2, q⟩
theorem add_ll {a b : List D} (h : a.length + b.length ≤ sizeLine) : addD (.lst a) (.lst b) = Pure.pure (.lst (a ++ b)) := if_pos h
theorem rng_e {j : Int} (h : 0 ≤ j ∧ j < 100) : rng1 [.v (.int j)] = Pure.pure (rngs 0 j) := if_pos (by omega)
theorem rngs_len {j : Int} (h : 0 ≤ j) : (rngs 0 j).length = j.toNat := by
  unfold rngs
  rw [List.length_map, List.length_range]
  omega
theorem part_e (i : Int) : partD (.int i) = Pure.pure (some i) := Eq.trans rfl rfl
theorem ne_same {t : Str} (h : PyData.canLay0 (.str t) = true) : neD (.str t) (.str t) = Pure.pure (.bl false) := by
  show (if SeqAt.shaped (.str t) = true ∧ SeqAt.shaped (.str t) = true then Pure.pure (D.bl (!PyData.eqv (.str t) (.str t))) else M.no) = _
  rw [if_pos ⟨shaped_str h, shaped_str h⟩]
  have e : PyData.eqv (.str t) (.str t) = true := by
    show (t == t) = true
    exact beq_self_eq_true t
  rw [e]
  rfl
theorem min_e (i j : Int) : minD (.int i) (.int j) = Pure.pure (.int (if j < i then j else i)) := Eq.trans rfl rfl
theorem chrs_len (x : Str) : (chrs x).length = x.cps.size := by unfold chrs; rw [List.length_map, Array.length_toList]
theorem plain_e {x : Str} (h : x.cps.size ≤ sizeLine) : g_is_plain [.v (.str x)] = Pure.pure (.bl (plain x.cps.toList)) := by
  show m_is_plain (.str x) = _
  unfold m_is_plain
  have e1 : ∀ d ∈ chrs x, chainM (Pure.pure (.str "a")) (Pure.pure d) (Pure.pure (.str "z")) leD leD = Pure.pure (match d with | .str y => .bl (y.cps.toList.all fun c => decide (97 ≤ c) && decide (c ≤ 122)) | d => d) := fun d hd => by
    obtain ⟨c, _, rfl⟩ := List.mem_map.mp hd
    unfold chainM
    simp only [pb, le_str, bB]
    rw [lt_a]
    by_cases q : c < 97
    · have q2 : decide (97 ≤ c) = false := decide_eq_false (by omega)
      simp only [decide_eq_true q, Bool.not_true, Bool.false_eq_true, if_false, List.all_cons, List.all_nil, Bool.and_true, q2, Bool.false_and]
    · have q2 : decide (97 ≤ c) = true := decide_eq_true (by omega)
      simp only [decide_eq_false q, Bool.not_false, if_true, lt_z, List.all_cons, List.all_nil, Bool.and_true, q2, Bool.true_and]
      by_cases q3 : 122 < c
      · rw [decide_eq_true q3, decide_eq_false (by omega)]; rfl
      · rw [decide_eq_false q3, decide_eq_true (by omega)]; rfl
  have e2 : compF (fun _ => Pure.pure true) (fun d => chainM (Pure.pure (.str "a")) (Pure.pure d) (Pure.pure (.str "z")) leD leD) (chrs x) = Pure.pure (x.cps.toList.map fun c => .bl (decide (97 ≤ c) && decide (c ≤ 122))) := by
    rw [comp_all _ _ e1]
    unfold chrs
    rw [List.map_map]
    congr 1
    refine List.map_congr_left fun c _ => ?_
    show D.bl (([c].all fun c => decide (97 ≤ c) && decide (c ≤ 122))) = _
    simp only [List.all_cons, List.all_nil, Bool.and_true]
  have e3 : allD (.lst (x.cps.toList.map fun c => .bl (decide (97 ≤ c) && decide (c ≤ 122)))) = Pure.pure (.bl (plain x.cps.toList)) := by
    unfold allD
    simp only [bls_map, Option.map_some, sB]
    unfold plain
    rw [List.all_map]
    rfl
  simp only [pb, asc, iter_str, e2, noE, v0, v1, f1e, dR]
  rw [mkLe (by rw [List.length_map, Array.length_toList]; exact h)]
  simp only [pb, v0, v1, f1e, dR, e3]
theorem isB1 : isB "str" "str" = true := by decide
def nameB (l : List Nat) : Bool := decide (1 ≤ (l.length : Int)) && decide ((l.length : Int) ≤ 8) && plain l
theorem name_e {x : Str} (h : x.cps.size ≤ sizeLine) : g_is_name [.v (.str x)] = Pure.pure (.bl (nameB (cl x))) := by
  show m_is_name (.str x) = _
  unfold m_is_name
  simp only [pb, asc, is_str, isB1, bB, ittr, itT, v0, v1, f1e, len_e h, chain_int, plain_e h]
  unfold nameB
  cases decide (1 ≤ ((cl x).length : Int)) && decide (((cl x).length : Int) ≤ 8)
  · simp only [itfa, itF, pb, dR, Bool.false_and]
  · simp only [ittr, itT, pb, dR, Bool.true_and]
end KX
namespace KX
open PySem PySem.Spec PyProof.Rows L2 DL
noncomputable section
def okS (x : Str) : Bool := x.cps.all (· < 1114112)
theorem lay_ok {x : Str} (h : okS x = true) : PyData.canLay0 (.str x) = true := h
theorem eqlit {x y : Str} {r : Bool} (h : (okS x && okS y && ((x == y) == r)) = true) : eqD (.str x) (.str y) = Pure.pure (.bl r) := by
  simp only [Bool.and_eq_true, beq_iff_eq] at h
  obtain ⟨⟨h1, h2⟩, h3⟩ := h
  rw [eq_str (lay_ok h1) (lay_ok h2)]
  congr 2
theorem any_strs (x : Str) (ys : List Str) : ((ys.map PyData.str).any fun z => PyData.eqv z (.str x)) = ys.any (· == x) := by
  induction ys with
  | nil => rfl
  | cons y ys ih =>
    rw [List.map_cons, List.any_cons, List.any_cons, ih]
    rfl
theorem shaped_seq (mk : List PyData → PyData) (hm : mk = .list ∨ mk = .tuple) {ys : List Str} (h : ys.all okS = true) : SeqAt.shaped (mk (ys.map .str)) = true := by
  obtain ⟨a, b⟩ := lay_strs (ys := ys) fun y hy => lay_ok (List.all_eq_true.mp h y hy)
  rcases hm with rfl | rfl
  · unfold SeqAt.shaped
    have d2 : PyData.depth (.list (ys.map .str)) = 1 := by show PyData.depthAll _ + 1 = 1; rw [b]
    have d1 : PyData.canLay0 (.list (ys.map .str)) = true := a
    rw [d1, d2]; rfl
  · unfold SeqAt.shaped
    have d2 : PyData.depth (.tuple (ys.map .str)) = 1 := by show PyData.depthAll _ + 1 = 1; rw [b]
    have d1 : PyData.canLay0 (.tuple (ys.map .str)) = true := a
    rw [d1, d2]; rfl
theorem inseq (neg : Bool) {x : Str} {ys : List Str} (hx : okS x = true) (h : ys.all okS = true) : inD neg (.str x) (.tup (ys.map .str)) = Pure.pure (.bl (if neg then !(ys.any (· == x)) else ys.any (· == x))) := by
  show inSeq neg .tuple (.str x) (ys.map .str) = _
  unfold inSeq
  rw [toPys_strs]
  show (if SeqAt.shaped (.str x) = true ∧ SeqAt.shaped (.tuple (ys.map .str)) = true then Pure.pure (D.bl (if neg then !((ys.map PyData.str).any fun z => PyData.eqv z (.str x)) else (ys.map PyData.str).any fun z => PyData.eqv z (.str x))) else M.no) = _
  rw [if_pos ⟨shaped_str (lay_ok hx), shaped_seq .tuple (.inr rfl) h⟩, any_strs]
theorem inlit {neg : Bool} {x : Str} {ys : List Str} {ds : List D} {r : Bool} (e : ds = ys.map .str) (h : (okS x && ys.all okS && ((if neg then !(ys.any (· == x)) else ys.any (· == x)) == r)) = true) : inD neg (.str x) (.tup ds) = Pure.pure (.bl r) := by
  simp only [Bool.and_eq_true, beq_iff_eq] at h
  obtain ⟨⟨h1, h2⟩, h3⟩ := h
  rw [e, inseq neg h1 h2, h3]
theorem q_all_all : eqD (.str (Str.ofString "all")) (.str (Str.ofString "all")) = Pure.pure (.bl true) := eqlit (by decide +kernel)
theorem q_all_none : eqD (.str (Str.ofString "all")) (.str (Str.ofString "none")) = Pure.pure (.bl false) := eqlit (by decide +kernel)
theorem q_all_name : eqD (.str (Str.ofString "all")) (.str (Str.ofString "name")) = Pure.pure (.bl false) := eqlit (by decide +kernel)
theorem q_all_not : eqD (.str (Str.ofString "all")) (.str (Str.ofString "not")) = Pure.pure (.bl false) := eqlit (by decide +kernel)
theorem q_all_and : eqD (.str (Str.ofString "all")) (.str (Str.ofString "and")) = Pure.pure (.bl false) := eqlit (by decide +kernel)
theorem q_all_or : eqD (.str (Str.ofString "all")) (.str (Str.ofString "or")) = Pure.pure (.bl false) := eqlit (by decide +kernel)
theorem q_none_all : eqD (.str (Str.ofString "none")) (.str (Str.ofString "all")) = Pure.pure (.bl false) := eqlit (by decide +kernel)
theorem q_none_none : eqD (.str (Str.ofString "none")) (.str (Str.ofString "none")) = Pure.pure (.bl true) := eqlit (by decide +kernel)
theorem q_none_name : eqD (.str (Str.ofString "none")) (.str (Str.ofString "name")) = Pure.pure (.bl false) := eqlit (by decide +kernel)
theorem q_none_not : eqD (.str (Str.ofString "none")) (.str (Str.ofString "not")) = Pure.pure (.bl false) := eqlit (by decide +kernel)
theorem q_none_and : eqD (.str (Str.ofString "none")) (.str (Str.ofString "and")) = Pure.pure (.bl false) := eqlit (by decide +kernel)
theorem q_none_or : eqD (.str (Str.ofString "none")) (.str (Str.ofString "or")) = Pure.pure (.bl false) := eqlit (by decide +kernel)
theorem q_name_all : eqD (.str (Str.ofString "name")) (.str (Str.ofString "all")) = Pure.pure (.bl false) := eqlit (by decide +kernel)
theorem q_name_none : eqD (.str (Str.ofString "name")) (.str (Str.ofString "none")) = Pure.pure (.bl false) := eqlit (by decide +kernel)
theorem q_name_name : eqD (.str (Str.ofString "name")) (.str (Str.ofString "name")) = Pure.pure (.bl true) := eqlit (by decide +kernel)
theorem q_name_not : eqD (.str (Str.ofString "name")) (.str (Str.ofString "not")) = Pure.pure (.bl false) := eqlit (by decide +kernel)
theorem q_name_and : eqD (.str (Str.ofString "name")) (.str (Str.ofString "and")) = Pure.pure (.bl false) := eqlit (by decide +kernel)
theorem q_name_or : eqD (.str (Str.ofString "name")) (.str (Str.ofString "or")) = Pure.pure (.bl false) := eqlit (by decide +kernel)
theorem q_not_all : eqD (.str (Str.ofString "not")) (.str (Str.ofString "all")) = Pure.pure (.bl false) := eqlit (by decide +kernel)
theorem q_not_none : eqD (.str (Str.ofString "not")) (.str (Str.ofString "none")) = Pure.pure (.bl false) := eqlit (by decide +kernel)
theorem q_not_name : eqD (.str (Str.ofString "not")) (.str (Str.ofString "name")) = Pure.pure (.bl false) := eqlit (by decide +kernel)
theorem q_not_not : eqD (.str (Str.ofString "not")) (.str (Str.ofString "not")) = Pure.pure (.bl true) := eqlit (by decide +kernel)
theorem q_not_and : eqD (.str (Str.ofString "not")) (.str (Str.ofString "and")) = Pure.pure (.bl false) := eqlit (by decide +kernel)
theorem q_not_or : eqD (.str (Str.ofString "not")) (.str (Str.ofString "or")) = Pure.pure (.bl false) := eqlit (by decide +kernel)
theorem q_and_all : eqD (.str (Str.ofString "and")) (.str (Str.ofString "all")) = Pure.pure (.bl false) := eqlit (by decide +kernel)
theorem q_and_none : eqD (.str (Str.ofString "and")) (.str (Str.ofString "none")) = Pure.pure (.bl false) := eqlit (by decide +kernel)
theorem q_and_name : eqD (.str (Str.ofString "and")) (.str (Str.ofString "name")) = Pure.pure (.bl false) := eqlit (by decide +kernel)
theorem q_and_not : eqD (.str (Str.ofString "and")) (.str (Str.ofString "not")) = Pure.pure (.bl false) := eqlit (by decide +kernel)
theorem q_and_and : eqD (.str (Str.ofString "and")) (.str (Str.ofString "and")) = Pure.pure (.bl true) := eqlit (by decide +kernel)
theorem q_and_or : eqD (.str (Str.ofString "and")) (.str (Str.ofString "or")) = Pure.pure (.bl false) := eqlit (by decide +kernel)
theorem q_or_all : eqD (.str (Str.ofString "or")) (.str (Str.ofString "all")) = Pure.pure (.bl false) := eqlit (by decide +kernel)
theorem q_or_none : eqD (.str (Str.ofString "or")) (.str (Str.ofString "none")) = Pure.pure (.bl false) := eqlit (by decide +kernel)
theorem q_or_name : eqD (.str (Str.ofString "or")) (.str (Str.ofString "name")) = Pure.pure (.bl false) := eqlit (by decide +kernel)
theorem q_or_not : eqD (.str (Str.ofString "or")) (.str (Str.ofString "not")) = Pure.pure (.bl false) := eqlit (by decide +kernel)
theorem q_or_and : eqD (.str (Str.ofString "or")) (.str (Str.ofString "and")) = Pure.pure (.bl false) := eqlit (by decide +kernel)
theorem q_or_or : eqD (.str (Str.ofString "or")) (.str (Str.ofString "or")) = Pure.pure (.bl true) := eqlit (by decide +kernel)
theorem kget_e {tab : List (Str × Option Int)} {z : Str} {i : Int} {d : D} (h : tab.lookup z = some (some i)) : kgetD tab (.str z) d = Pure.pure (.int i) := by
  show (match tab.lookup z with | some (some i) => Pure.pure (D.int i) | some none => Pure.pure d | none => M.no) = _
  rw [h]
theorem i_all_ao : inD false (.str (Str.ofString "all")) (.tup [.str (Str.ofString "and"), .str (Str.ofString "or")]) = Pure.pure (.bl false) := inlit (ys := [Str.ofString "and", Str.ofString "or"]) rfl (by decide +kernel)
theorem i_all_aa : inD false (.str (Str.ofString "all")) (.tup [.str (Str.ofString "all"), .str (Str.ofString "and")]) = Pure.pure (.bl true) := inlit (ys := [Str.ofString "all", Str.ofString "and"]) rfl (by decide +kernel)
theorem i_all_an : inD false (.str (Str.ofString "all")) (.tup [.str (Str.ofString "all"), .str (Str.ofString "none")]) = Pure.pure (.bl true) := inlit (ys := [Str.ofString "all", Str.ofString "none"]) rfl (by decide +kernel)
theorem i_none_ao : inD false (.str (Str.ofString "none")) (.tup [.str (Str.ofString "and"), .str (Str.ofString "or")]) = Pure.pure (.bl false) := inlit (ys := [Str.ofString "and", Str.ofString "or"]) rfl (by decide +kernel)
theorem i_none_aa : inD false (.str (Str.ofString "none")) (.tup [.str (Str.ofString "all"), .str (Str.ofString "and")]) = Pure.pure (.bl false) := inlit (ys := [Str.ofString "all", Str.ofString "and"]) rfl (by decide +kernel)
theorem i_none_an : inD false (.str (Str.ofString "none")) (.tup [.str (Str.ofString "all"), .str (Str.ofString "none")]) = Pure.pure (.bl true) := inlit (ys := [Str.ofString "all", Str.ofString "none"]) rfl (by decide +kernel)
theorem i_name_ao : inD false (.str (Str.ofString "name")) (.tup [.str (Str.ofString "and"), .str (Str.ofString "or")]) = Pure.pure (.bl false) := inlit (ys := [Str.ofString "and", Str.ofString "or"]) rfl (by decide +kernel)
theorem i_name_aa : inD false (.str (Str.ofString "name")) (.tup [.str (Str.ofString "all"), .str (Str.ofString "and")]) = Pure.pure (.bl false) := inlit (ys := [Str.ofString "all", Str.ofString "and"]) rfl (by decide +kernel)
theorem i_name_an : inD false (.str (Str.ofString "name")) (.tup [.str (Str.ofString "all"), .str (Str.ofString "none")]) = Pure.pure (.bl false) := inlit (ys := [Str.ofString "all", Str.ofString "none"]) rfl (by decide +kernel)
theorem i_not_ao : inD false (.str (Str.ofString "not")) (.tup [.str (Str.ofString "and"), .str (Str.ofString "or")]) = Pure.pure (.bl false) := inlit (ys := [Str.ofString "and", Str.ofString "or"]) rfl (by decide +kernel)
theorem i_not_aa : inD false (.str (Str.ofString "not")) (.tup [.str (Str.ofString "all"), .str (Str.ofString "and")]) = Pure.pure (.bl false) := inlit (ys := [Str.ofString "all", Str.ofString "and"]) rfl (by decide +kernel)
theorem i_not_an : inD false (.str (Str.ofString "not")) (.tup [.str (Str.ofString "all"), .str (Str.ofString "none")]) = Pure.pure (.bl false) := inlit (ys := [Str.ofString "all", Str.ofString "none"]) rfl (by decide +kernel)
theorem i_and_ao : inD false (.str (Str.ofString "and")) (.tup [.str (Str.ofString "and"), .str (Str.ofString "or")]) = Pure.pure (.bl true) := inlit (ys := [Str.ofString "and", Str.ofString "or"]) rfl (by decide +kernel)
theorem i_and_aa : inD false (.str (Str.ofString "and")) (.tup [.str (Str.ofString "all"), .str (Str.ofString "and")]) = Pure.pure (.bl true) := inlit (ys := [Str.ofString "all", Str.ofString "and"]) rfl (by decide +kernel)
theorem i_and_an : inD false (.str (Str.ofString "and")) (.tup [.str (Str.ofString "all"), .str (Str.ofString "none")]) = Pure.pure (.bl false) := inlit (ys := [Str.ofString "all", Str.ofString "none"]) rfl (by decide +kernel)
theorem i_or_ao : inD false (.str (Str.ofString "or")) (.tup [.str (Str.ofString "and"), .str (Str.ofString "or")]) = Pure.pure (.bl true) := inlit (ys := [Str.ofString "and", Str.ofString "or"]) rfl (by decide +kernel)
theorem i_or_aa : inD false (.str (Str.ofString "or")) (.tup [.str (Str.ofString "all"), .str (Str.ofString "and")]) = Pure.pure (.bl false) := inlit (ys := [Str.ofString "all", Str.ofString "and"]) rfl (by decide +kernel)
theorem i_or_an : inD false (.str (Str.ofString "or")) (.tup [.str (Str.ofString "all"), .str (Str.ofString "none")]) = Pure.pure (.bl false) := inlit (ys := [Str.ofString "all", Str.ofString "none"]) rfl (by decide +kernel)
theorem k_all : kgetD [("all", some 1), ("none", some 1), ("not", some 2), ("and", some 3), ("or", some 3), ("", none), ("name", none), ("A", none), ("ninechars", none), ("x", none), ("u", none), ("q", none), ("r", none), ("s", none), ("t", none), ("a", none), ("odd", none), ("ends", none), ("zzzzzzzz", none), ("nota", none)] (.str (Str.ofString "all")) (.int 0) = Pure.pure (.int 1) := kget_e (by decide +kernel)
theorem k_none : kgetD [("all", some 1), ("none", some 1), ("not", some 2), ("and", some 3), ("or", some 3), ("", none), ("name", none), ("A", none), ("ninechars", none), ("x", none), ("u", none), ("q", none), ("r", none), ("s", none), ("t", none), ("a", none), ("odd", none), ("ends", none), ("zzzzzzzz", none), ("nota", none)] (.str (Str.ofString "none")) (.int 0) = Pure.pure (.int 1) := kget_e (by decide +kernel)
theorem k_not : kgetD [("all", some 1), ("none", some 1), ("not", some 2), ("and", some 3), ("or", some 3), ("", none), ("name", none), ("A", none), ("ninechars", none), ("x", none), ("u", none), ("q", none), ("r", none), ("s", none), ("t", none), ("a", none), ("odd", none), ("ends", none), ("zzzzzzzz", none), ("nota", none)] (.str (Str.ofString "not")) (.int 0) = Pure.pure (.int 2) := kget_e (by decide +kernel)
theorem k_and : kgetD [("all", some 1), ("none", some 1), ("not", some 2), ("and", some 3), ("or", some 3), ("", none), ("name", none), ("A", none), ("ninechars", none), ("x", none), ("u", none), ("q", none), ("r", none), ("s", none), ("t", none), ("a", none), ("odd", none), ("ends", none), ("zzzzzzzz", none), ("nota", none)] (.str (Str.ofString "and")) (.int 0) = Pure.pure (.int 3) := kget_e (by decide +kernel)
theorem k_or : kgetD [("all", some 1), ("none", some 1), ("not", some 2), ("and", some 3), ("or", some 3), ("", none), ("name", none), ("A", none), ("ninechars", none), ("x", none), ("u", none), ("q", none), ("r", none), ("s", none), ("t", none), ("a", none), ("odd", none), ("ends", none), ("zzzzzzzz", none), ("nota", none)] (.str (Str.ofString "or")) (.int 0) = Pure.pure (.int 3) := kget_e (by decide +kernel)
theorem x1_0 (a : D) : ixD (.tup [a]) (.int 0) = Pure.pure a := Eq.trans rfl rfl
theorem x2_0 (a b : D) : ixD (.tup [a, b]) (.int 0) = Pure.pure a := Eq.trans rfl rfl
theorem x2_1 (a b : D) : ixD (.tup [a, b]) (.int 1) = Pure.pure b := Eq.trans rfl rfl
theorem x3_0 (a b c : D) : ixD (.tup [a, b, c]) (.int 0) = Pure.pure a := Eq.trans rfl rfl
theorem x3_1 (a b c : D) : ixD (.tup [a, b, c]) (.int 1) = Pure.pure b := Eq.trans rfl rfl
theorem x3_2 (a b c : D) : ixD (.tup [a, b, c]) (.int 2) = Pure.pure c := Eq.trans rfl rfl
theorem l1_0 (a : D) : ixD (.lst [a]) (.int 0) = Pure.pure a := Eq.trans rfl rfl
theorem l2_0 (a b : D) : ixD (.lst [a, b]) (.int 0) = Pure.pure a := Eq.trans rfl rfl
theorem l2_1 (a b : D) : ixD (.lst [a, b]) (.int 1) = Pure.pure b := Eq.trans rfl rfl
theorem s1 (a : D) : sliceD (.tup [a]) (some 1) none = Pure.pure (.tup []) := Eq.trans rfl rfl
theorem s2 (a b : D) : sliceD (.tup [a, b]) (some 1) none = Pure.pure (.tup [b]) := Eq.trans rfl rfl
theorem s3 (a b c : D) : sliceD (.tup [a, b, c]) (some 1) none = Pure.pure (.tup [b, c]) := Eq.trans rfl rfl
theorem it_t (xs : List D) : iterA (.tup xs) = Pure.pure xs := Eq.trans rfl rfl
theorem it_l (xs : List D) : iterA (.lst xs) = Pure.pure xs := Eq.trans rfl rfl
theorem le_t (xs : List D) : lenD (.tup xs) = Pure.pure (.int (xs.length : Nat)) := Eq.trans rfl rfl
theorem le_l (xs : List D) : lenD (.lst xs) = Pure.pure (.int (xs.length : Nat)) := Eq.trans rfl rfl
theorem tt (xs : List D) : truE (.tup xs) = Pure.pure (!xs.isEmpty) := Eq.trans rfl rfl
theorem tu_l (xs : List D) : tupleD (.lst xs) = Pure.pure (.tup xs) := Eq.trans rfl rfl
theorem li_t (xs : List D) : listE (.tup xs) = Pure.pure (.lst xs) := Eq.trans rfl rfl
theorem ne11 : neD (.int 1) (.int 1) = Pure.pure (.bl false) := Eq.trans rfl rfl
theorem ne22 : neD (.int 2) (.int 2) = Pure.pure (.bl false) := Eq.trans rfl rfl
theorem ne33 : neD (.int 3) (.int 3) = Pure.pure (.bl false) := Eq.trans rfl rfl
theorem eq22 : eqD (.int 2) (.int 2) = Pure.pure (.bl true) := Eq.trans rfl rfl
theorem eq02 : eqD (.int 0) (.int 2) = Pure.pure (.bl false) := Eq.trans rfl rfl
theorem ln1 (a : D) : lenD (.tup [a]) = Pure.pure (.int 1) := Eq.trans rfl rfl
theorem ln2 (a b : D) : lenD (.tup [a, b]) = Pure.pure (.int 2) := Eq.trans rfl rfl
theorem ln3 (a b c : D) : lenD (.tup [a, b, c]) = Pure.pure (.int 3) := Eq.trans rfl rfl
theorem ll0 : lenD (.lst []) = Pure.pure (.int 0) := Eq.trans rfl rfl
theorem ll1 (a : D) : lenD (.lst [a]) = Pure.pure (.int 1) := Eq.trans rfl rfl
theorem ll2 (a b : D) : lenD (.lst [a, b]) = Pure.pure (.int 2) := Eq.trans rfl rfl
theorem line9 {n : Nat} (h : n ≤ 9) : n ≤ sizeLine := by rw [sizeLine_eq]; omega
theorem m0 : mkL [] = Pure.pure (.lst []) := mkLe (line9 (by decide))
theorem m1 (a : D) : mkL [a] = Pure.pure (.lst [a]) := mkLe (line9 (by simp))
theorem m2 (a b : D) : mkL [a, b] = Pure.pure (.lst [a, b]) := mkLe (line9 (by simp))
theorem m4 (a b c d : D) : mkL [a, b, c, d] = Pure.pure (.lst [a, b, c, d]) := mkLe (line9 (by simp))
theorem t0 : mkT [] = Pure.pure (.tup []) := mkTe (line9 (by decide))
theorem t1 (a : D) : mkT [a] = Pure.pure (.tup [a]) := mkTe (line9 (by simp))
theorem t2 (a b : D) : mkT [a, b] = Pure.pure (.tup [a, b]) := mkTe (line9 (by simp))
theorem t3 (a b c : D) : mkT [a, b, c] = Pure.pure (.tup [a, b, c]) := mkTe (line9 (by simp))
theorem n0 : mkN [] = Pure.pure [] := mkN_e (line9 (by decide))
theorem c0 {t : D → M Bool} {e : D → M D} : compF t e [] = Pure.pure [] := Eq.trans rfl rfl
theorem c1 {e : D → M D} {a b : D} (h : e a = Pure.pure b) : compF (fun _ => Pure.pure true) e [a] = Pure.pure [b] := by
  unfold compF
  rw [noE, pb, ittr, h, noE, pb, c0, noE, pb]
theorem c2 {e : D → M D} {a b c d : D} (h : e a = Pure.pure b) (k : e c = Pure.pure d) : compF (fun _ => Pure.pure true) e [a, c] = Pure.pure [b, d] := by
  unfold compF
  rw [noE, pb, ittr, h, noE, pb, c1 k, noE, pb]
theorem al_0 : allD (.lst []) = Pure.pure (.bl true) := Eq.trans rfl rfl
theorem an_0 : anyD (.lst []) = Pure.pure (.bl false) := Eq.trans rfl rfl
theorem al_1 (a : Bool) : allD (.lst [.bl a]) = Pure.pure (.bl a) := by cases a <;> exact Eq.trans rfl rfl
theorem al_2 (a b : Bool) : allD (.lst [.bl a, .bl b]) = Pure.pure (.bl (a && b)) := by cases a <;> cases b <;> exact Eq.trans rfl rfl
theorem an_2 (a b : Bool) : anyD (.lst [.bl a, .bl b]) = Pure.pure (.bl (a || b)) := by cases a <;> cases b <;> exact Eq.trans rfl rfl
theorem f0 {α : Type} (b : α → D → M (Fl α)) (a : α) : forF b [] a = Pure.pure (.nx a) := Eq.trans rfl rfl
theorem isi_t (xs : List D) (T : String) : isiD T (.tup xs) = Pure.pure (.bl (isB "tuple" T)) := isi_is T rfl
theorem bt : isB "tuple" "tuple" = true := by decide
theorem bs : isB "str" "tuple" = false := by decide
theorem bss : isB "str" "str" = true := by decide
theorem dX : doneF (α := Unit) (.nx ()) = Pure.pure .non := Eq.trans rfl rfl
/-- names that the law draws -/
def five : List Str := ["a", "odd", "ends", "zzzzzzzz", "nota", "x", "u", "q", "r", "s", "t", "name"]
inductive Tr where
  | all | non | nam (w : Str) | nt (t : Tr) | bin (k : Bool) (a b : Tr)
namespace Tr
def enc : Tr → D
  | all => .tup [.str (Str.ofString "all")]
  | non => .tup [.str (Str.ofString "none")]
  | nam w => .tup [.str (Str.ofString "name"), .str w]
  | nt t => .tup [.str (Str.ofString "not"), enc t]
  | bin true a b => .tup [.str (Str.ofString "and"), enc a, enc b]
  | bin false a b => .tup [.str (Str.ofString "or"), enc a, enc b]
def dep : Tr → Nat
  | all => 1 | non => 1 | nam _ => 1
  | nt t => dep t + 1
  | bin _ a b => max (dep a) (dep b) + 1
def ok : Tr → Prop
  | all => True | non => True
  | nam w => w ∈ five
  | nt t => ok t
  | bin _ a b => ok a ∧ ok b
/-- all tuples, from the outside -/
def subs : Tr → List D
  | all => [enc all] | non => [enc non] | nam w => [enc (nam w)]
  | nt t => enc (nt t) :: subs t
  | bin k a b => enc (bin k a b) :: (subs a ++ subs b)
def names : Tr → List Str
  | all => [] | non => []
  | nam w => [w]
  | nt t => names t
  | bin _ a b => names a ++ names b
end Tr
end
end KX
namespace KX
open PySem PySem.Spec PyProof.Rows L2 DL
noncomputable section
theorem five_ok : ∀ w ∈ five, okS w = true ∧ w.cps.size ≤ 8 ∧ nameB (cl w) = true ∧ (["all", "and", "none", "not", "or"] : List Str).any (· == w) = false := by decide +kernel
end
end KX
namespace KX
open PySem PySem.Spec PyProof.Rows L2 DL
noncomputable section
theorem subs_len : ∀ t : Tr, t.subs.length + 1 ≤ 2 ^ t.dep
  | .all => by simp [Tr.subs, Tr.dep]
  | .non => by simp [Tr.subs, Tr.dep]
  | .nam w => by simp [Tr.subs, Tr.dep]
  | .nt t => by
    have := subs_len t
    simp only [Tr.subs, Tr.dep, List.length_cons, Nat.pow_succ]
    omega
  | .bin k a b => by
    have ha := subs_len a
    have hb := subs_len b
    have h1 : 2 ^ a.dep ≤ 2 ^ max a.dep b.dep := Nat.pow_le_pow_right (by decide) (Nat.le_max_left _ _)
    have h2 : 2 ^ b.dep ≤ 2 ^ max a.dep b.dep := Nat.pow_le_pow_right (by decide) (Nat.le_max_right _ _)
    simp only [Tr.subs, Tr.dep, List.length_cons, List.length_append, Nat.pow_succ]
    omega
theorem names_len : ∀ t : Tr, t.names.length ≤ 2 ^ t.dep
  | .all => by simp [Tr.names]
  | .non => by simp [Tr.names]
  | .nam w => by simp [Tr.names, Tr.dep]
  | .nt t => by
    have := names_len t
    simp only [Tr.names, Tr.dep, Nat.pow_succ]
    omega
  | .bin k a b => by
    have ha := names_len a
    have hb := names_len b
    have h1 : 2 ^ a.dep ≤ 2 ^ max a.dep b.dep := Nat.pow_le_pow_right (by decide) (Nat.le_max_left _ _)
    have h2 : 2 ^ b.dep ≤ 2 ^ max a.dep b.dep := Nat.pow_le_pow_right (by decide) (Nat.le_max_right _ _)
    simp only [Tr.names, Tr.dep, List.length_append, Nat.pow_succ]
    omega
theorem pow_line {d : Nat} (h : d ≤ 12) : 2 ^ d ≤ 4096 := Nat.pow_le_pow_right (by decide) h
theorem pow10 {d : Nat} (h : d ≤ 10) : 2 ^ d ≤ 1024 := Nat.pow_le_pow_right (by decide) h
theorem f_1 {α : Type} {b : α → D → M (Fl α)} {a a' : α} {x : D} (h : b a x = Pure.pure (.nx a')) : forF b [x] a = Pure.pure (.nx a') := by
  unfold forF
  rw [h, pb]
  exact f0 b a'
theorem f_2 {α : Type} {b : α → D → M (Fl α)} {a a' a'' : α} {x y : D} (h : b a x = Pure.pure (.nx a')) (k : b a' y = Pure.pure (.nx a'')) : forF b [x, y] a = Pure.pure (.nx a'') := by
  unfold forF
  rw [h, pb]
  exact f_1 k
theorem add_l {a b : List D} (h : a.length + b.length ≤ 9000) : addD (.lst a) (.lst b) = Pure.pure (.lst (a ++ b)) := add_ll (by rw [sizeLine_eq]; omega)
theorem subs_tup (t : Tr) : ∃ l, t.enc = .tup l := by
  cases t with
  | bin k a b => cases k <;> exact ⟨_, rfl⟩
  | _ => exact ⟨_, rfl⟩
theorem tups_e : ∀ (t : Tr) (n : Nat), t.dep ≤ n → t.dep ≤ 12 → g_tuples_in n [.v t.enc] = Pure.pure (.tup t.subs)
  | t, 0, h, _ => by cases t <;> simp [Tr.dep] at h
  | .all, n + 1, _, _ => by
    show m_tuples_in (g_tuples_in n) (.tup [.str (Str.ofString "all")]) = _
    unfold m_tuples_in
    simp only [pb, asc, thB, thN, thR, thI, bB, ntn, ntf, ittr, itfa, itT, itF, v0, v1, f1e, f2e, dR, dX, q_all_all, q_all_none, q_all_name, q_all_not, q_all_and, q_all_or, q_none_all, q_none_none, q_none_name, q_none_not, q_none_and, q_none_or, q_name_all, q_name_none, q_name_name, q_name_not, q_name_and, q_name_or, q_not_all, q_not_none, q_not_name, q_not_not, q_not_and, q_not_or, q_and_all, q_and_none, q_and_name, q_and_not, q_and_and, q_and_or, q_or_all, q_or_none, q_or_name, q_or_not, q_or_and, q_or_or, i_all_ao, i_all_aa, i_all_an, i_none_ao, i_none_aa, i_none_an, i_name_ao, i_name_aa, i_name_an, i_not_ao, i_not_aa, i_not_an, i_and_ao, i_and_aa, i_and_an, i_or_ao, i_or_aa, i_or_an, k_all, k_none, k_not, k_and, k_or, x1_0, x2_0, x2_1, x3_0, x3_1, x3_2, l1_0, l2_0, l2_1, KX.s1, KX.s2, KX.s3, it_t, it_l, ln1, ln2, ln3, ll0, ll1, ll2, ne11, ne22, ne33, eq22, eq02, List.isEmpty_cons, List.isEmpty_nil, Bool.not_false, Bool.not_true, tt, tu_l, li_t, m0, m1, m2, m4, t0, t1, t2, t3, n0, c0, al_0, an_0, al_1, al_2, an_2, f0, isi_t, is_str, bt, bs, bss, noE, part_e]
    rfl
  | .non, n + 1, _, _ => by
    show m_tuples_in (g_tuples_in n) (.tup [.str (Str.ofString "none")]) = _
    unfold m_tuples_in
    simp only [pb, asc, thB, thN, thR, thI, bB, ntn, ntf, ittr, itfa, itT, itF, v0, v1, f1e, f2e, dR, dX, q_all_all, q_all_none, q_all_name, q_all_not, q_all_and, q_all_or, q_none_all, q_none_none, q_none_name, q_none_not, q_none_and, q_none_or, q_name_all, q_name_none, q_name_name, q_name_not, q_name_and, q_name_or, q_not_all, q_not_none, q_not_name, q_not_not, q_not_and, q_not_or, q_and_all, q_and_none, q_and_name, q_and_not, q_and_and, q_and_or, q_or_all, q_or_none, q_or_name, q_or_not, q_or_and, q_or_or, i_all_ao, i_all_aa, i_all_an, i_none_ao, i_none_aa, i_none_an, i_name_ao, i_name_aa, i_name_an, i_not_ao, i_not_aa, i_not_an, i_and_ao, i_and_aa, i_and_an, i_or_ao, i_or_aa, i_or_an, k_all, k_none, k_not, k_and, k_or, x1_0, x2_0, x2_1, x3_0, x3_1, x3_2, l1_0, l2_0, l2_1, KX.s1, KX.s2, KX.s3, it_t, it_l, ln1, ln2, ln3, ll0, ll1, ll2, ne11, ne22, ne33, eq22, eq02, List.isEmpty_cons, List.isEmpty_nil, Bool.not_false, Bool.not_true, tt, tu_l, li_t, m0, m1, m2, m4, t0, t1, t2, t3, n0, c0, al_0, an_0, al_1, al_2, an_2, f0, isi_t, is_str, bt, bs, bss, noE, part_e]
    rfl
  | .nam w, n + 1, _, _ => by
    show m_tuples_in (g_tuples_in n) (.tup [.str (Str.ofString "name"), .str w]) = _
    unfold m_tuples_in
    simp only [pb, asc, thB, thN, thR, thI, bB, ntn, ntf, ittr, itfa, itT, itF, v0, v1, f1e, f2e, dR, dX, q_all_all, q_all_none, q_all_name, q_all_not, q_all_and, q_all_or, q_none_all, q_none_none, q_none_name, q_none_not, q_none_and, q_none_or, q_name_all, q_name_none, q_name_name, q_name_not, q_name_and, q_name_or, q_not_all, q_not_none, q_not_name, q_not_not, q_not_and, q_not_or, q_and_all, q_and_none, q_and_name, q_and_not, q_and_and, q_and_or, q_or_all, q_or_none, q_or_name, q_or_not, q_or_and, q_or_or, i_all_ao, i_all_aa, i_all_an, i_none_ao, i_none_aa, i_none_an, i_name_ao, i_name_aa, i_name_an, i_not_ao, i_not_aa, i_not_an, i_and_ao, i_and_aa, i_and_an, i_or_ao, i_or_aa, i_or_an, k_all, k_none, k_not, k_and, k_or, x1_0, x2_0, x2_1, x3_0, x3_1, x3_2, l1_0, l2_0, l2_1, KX.s1, KX.s2, KX.s3, it_t, it_l, ln1, ln2, ln3, ll0, ll1, ll2, ne11, ne22, ne33, eq22, eq02, List.isEmpty_cons, List.isEmpty_nil, Bool.not_false, Bool.not_true, tt, tu_l, li_t, m0, m1, m2, m4, t0, t1, t2, t3, n0, c0, al_0, an_0, al_1, al_2, an_2, f0, isi_t, is_str, bt, bs, bss, noE, part_e]
    rfl
  | .nt t, n + 1, h, hl => by
    have ih := tups_e t n (by simp [Tr.dep] at h; omega) (by simp [Tr.dep] at hl; omega)
    have z := subs_len t
    have z2 := pow_line (show t.dep ≤ 12 by simp [Tr.dep] at hl; omega)
    show m_tuples_in (g_tuples_in n) (.tup [.str (Str.ofString "not"), t.enc]) = _
    unfold m_tuples_in
    simp only [pb, asc, thB, thN, thR, thI, bB, ntn, ntf, ittr, itfa, itT, itF, v0, v1, f1e, f2e, dR, dX, q_all_all, q_all_none, q_all_name, q_all_not, q_all_and, q_all_or, q_none_all, q_none_none, q_none_name, q_none_not, q_none_and, q_none_or, q_name_all, q_name_none, q_name_name, q_name_not, q_name_and, q_name_or, q_not_all, q_not_none, q_not_name, q_not_not, q_not_and, q_not_or, q_and_all, q_and_none, q_and_name, q_and_not, q_and_and, q_and_or, q_or_all, q_or_none, q_or_name, q_or_not, q_or_and, q_or_or, i_all_ao, i_all_aa, i_all_an, i_none_ao, i_none_aa, i_none_an, i_name_ao, i_name_aa, i_name_an, i_not_ao, i_not_aa, i_not_an, i_and_ao, i_and_aa, i_and_an, i_or_ao, i_or_aa, i_or_an, k_all, k_none, k_not, k_and, k_or, x1_0, x2_0, x2_1, x3_0, x3_1, x3_2, l1_0, l2_0, l2_1, KX.s1, KX.s2, KX.s3, it_t, it_l, ln1, ln2, ln3, ll0, ll1, ll2, ne11, ne22, ne33, eq22, eq02, List.isEmpty_cons, List.isEmpty_nil, Bool.not_false, Bool.not_true, tt, tu_l, li_t, m0, m1, m2, m4, t0, t1, t2, t3, n0, c0, al_0, an_0, al_1, al_2, an_2, f0, isi_t, is_str, bt, bs, bss, noE, part_e]
    rw [f_1 (a' := .lst ([.tup [.str (Str.ofString "not"), t.enc]] ++ t.subs))]
    · simp only [pb, asc, thB, thN, thR, thI, bB, ntn, ntf, ittr, itfa, itT, itF, v0, v1, f1e, f2e, dR, dX, q_all_all, q_all_none, q_all_name, q_all_not, q_all_and, q_all_or, q_none_all, q_none_none, q_none_name, q_none_not, q_none_and, q_none_or, q_name_all, q_name_none, q_name_name, q_name_not, q_name_and, q_name_or, q_not_all, q_not_none, q_not_name, q_not_not, q_not_and, q_not_or, q_and_all, q_and_none, q_and_name, q_and_not, q_and_and, q_and_or, q_or_all, q_or_none, q_or_name, q_or_not, q_or_and, q_or_or, i_all_ao, i_all_aa, i_all_an, i_none_ao, i_none_aa, i_none_an, i_name_ao, i_name_aa, i_name_an, i_not_ao, i_not_aa, i_not_an, i_and_ao, i_and_aa, i_and_an, i_or_ao, i_or_aa, i_or_an, k_all, k_none, k_not, k_and, k_or, x1_0, x2_0, x2_1, x3_0, x3_1, x3_2, l1_0, l2_0, l2_1, KX.s1, KX.s2, KX.s3, it_t, it_l, ln1, ln2, ln3, ll0, ll1, ll2, ne11, ne22, ne33, eq22, eq02, List.isEmpty_cons, List.isEmpty_nil, Bool.not_false, Bool.not_true, tt, tu_l, li_t, m0, m1, m2, m4, t0, t1, t2, t3, n0, c0, al_0, an_0, al_1, al_2, an_2, f0, isi_t, is_str, bt, bs, bss, noE, part_e]
      rfl
    · rw [ih]
      simp only [pb, asc, thB, thN, thR, thI, bB, ntn, ntf, ittr, itfa, itT, itF, v0, v1, f1e, f2e, dR, dX, q_all_all, q_all_none, q_all_name, q_all_not, q_all_and, q_all_or, q_none_all, q_none_none, q_none_name, q_none_not, q_none_and, q_none_or, q_name_all, q_name_none, q_name_name, q_name_not, q_name_and, q_name_or, q_not_all, q_not_none, q_not_name, q_not_not, q_not_and, q_not_or, q_and_all, q_and_none, q_and_name, q_and_not, q_and_and, q_and_or, q_or_all, q_or_none, q_or_name, q_or_not, q_or_and, q_or_or, i_all_ao, i_all_aa, i_all_an, i_none_ao, i_none_aa, i_none_an, i_name_ao, i_name_aa, i_name_an, i_not_ao, i_not_aa, i_not_an, i_and_ao, i_and_aa, i_and_an, i_or_ao, i_or_aa, i_or_an, k_all, k_none, k_not, k_and, k_or, x1_0, x2_0, x2_1, x3_0, x3_1, x3_2, l1_0, l2_0, l2_1, KX.s1, KX.s2, KX.s3, it_t, it_l, ln1, ln2, ln3, ll0, ll1, ll2, ne11, ne22, ne33, eq22, eq02, List.isEmpty_cons, List.isEmpty_nil, Bool.not_false, Bool.not_true, tt, tu_l, li_t, m0, m1, m2, m4, t0, t1, t2, t3, n0, c0, al_0, an_0, al_1, al_2, an_2, f0, isi_t, is_str, bt, bs, bss, noE, part_e]
      rw [add_l (by simp; omega)]
      simp only [pb, asc, thB, thN, thR, thI, bB, ntn, ntf, ittr, itfa, itT, itF, v0, v1, f1e, f2e, dR, dX, q_all_all, q_all_none, q_all_name, q_all_not, q_all_and, q_all_or, q_none_all, q_none_none, q_none_name, q_none_not, q_none_and, q_none_or, q_name_all, q_name_none, q_name_name, q_name_not, q_name_and, q_name_or, q_not_all, q_not_none, q_not_name, q_not_not, q_not_and, q_not_or, q_and_all, q_and_none, q_and_name, q_and_not, q_and_and, q_and_or, q_or_all, q_or_none, q_or_name, q_or_not, q_or_and, q_or_or, i_all_ao, i_all_aa, i_all_an, i_none_ao, i_none_aa, i_none_an, i_name_ao, i_name_aa, i_name_an, i_not_ao, i_not_aa, i_not_an, i_and_ao, i_and_aa, i_and_an, i_or_ao, i_or_aa, i_or_an, k_all, k_none, k_not, k_and, k_or, x1_0, x2_0, x2_1, x3_0, x3_1, x3_2, l1_0, l2_0, l2_1, KX.s1, KX.s2, KX.s3, it_t, it_l, ln1, ln2, ln3, ll0, ll1, ll2, ne11, ne22, ne33, eq22, eq02, List.isEmpty_cons, List.isEmpty_nil, Bool.not_false, Bool.not_true, tt, tu_l, li_t, m0, m1, m2, m4, t0, t1, t2, t3, n0, c0, al_0, an_0, al_1, al_2, an_2, f0, isi_t, is_str, bt, bs, bss, noE, part_e]
  | .bin k a b, n + 1, h, hl => by
    have iha := tups_e a n (by simp [Tr.dep] at h; omega) (by simp [Tr.dep] at hl; omega)
    have ihb := tups_e b n (by simp [Tr.dep] at h; omega) (by simp [Tr.dep] at hl; omega)
    have za := subs_len a
    have za2 := pow_line (show a.dep ≤ 12 by simp [Tr.dep] at hl; omega)
    have zb := subs_len b
    have zb2 := pow_line (show b.dep ≤ 12 by simp [Tr.dep] at hl; omega)
    cases k
    · show m_tuples_in (g_tuples_in n) (.tup [.str (Str.ofString "or"), a.enc, b.enc]) = _
      unfold m_tuples_in
      simp only [pb, asc, thB, thN, thR, thI, bB, ntn, ntf, ittr, itfa, itT, itF, v0, v1, f1e, f2e, dR, dX, q_all_all, q_all_none, q_all_name, q_all_not, q_all_and, q_all_or, q_none_all, q_none_none, q_none_name, q_none_not, q_none_and, q_none_or, q_name_all, q_name_none, q_name_name, q_name_not, q_name_and, q_name_or, q_not_all, q_not_none, q_not_name, q_not_not, q_not_and, q_not_or, q_and_all, q_and_none, q_and_name, q_and_not, q_and_and, q_and_or, q_or_all, q_or_none, q_or_name, q_or_not, q_or_and, q_or_or, i_all_ao, i_all_aa, i_all_an, i_none_ao, i_none_aa, i_none_an, i_name_ao, i_name_aa, i_name_an, i_not_ao, i_not_aa, i_not_an, i_and_ao, i_and_aa, i_and_an, i_or_ao, i_or_aa, i_or_an, k_all, k_none, k_not, k_and, k_or, x1_0, x2_0, x2_1, x3_0, x3_1, x3_2, l1_0, l2_0, l2_1, KX.s1, KX.s2, KX.s3, it_t, it_l, ln1, ln2, ln3, ll0, ll1, ll2, ne11, ne22, ne33, eq22, eq02, List.isEmpty_cons, List.isEmpty_nil, Bool.not_false, Bool.not_true, tt, tu_l, li_t, m0, m1, m2, m4, t0, t1, t2, t3, n0, c0, al_0, an_0, al_1, al_2, an_2, f0, isi_t, is_str, bt, bs, bss, noE, part_e]
      rw [f_2 (a' := .lst ([.tup [.str (Str.ofString "or"), a.enc, b.enc]] ++ a.subs)) (a'' := .lst ([.tup [.str (Str.ofString "or"), a.enc, b.enc]] ++ a.subs ++ b.subs))]
      · simp only [pb, asc, thB, thN, thR, thI, bB, ntn, ntf, ittr, itfa, itT, itF, v0, v1, f1e, f2e, dR, dX, q_all_all, q_all_none, q_all_name, q_all_not, q_all_and, q_all_or, q_none_all, q_none_none, q_none_name, q_none_not, q_none_and, q_none_or, q_name_all, q_name_none, q_name_name, q_name_not, q_name_and, q_name_or, q_not_all, q_not_none, q_not_name, q_not_not, q_not_and, q_not_or, q_and_all, q_and_none, q_and_name, q_and_not, q_and_and, q_and_or, q_or_all, q_or_none, q_or_name, q_or_not, q_or_and, q_or_or, i_all_ao, i_all_aa, i_all_an, i_none_ao, i_none_aa, i_none_an, i_name_ao, i_name_aa, i_name_an, i_not_ao, i_not_aa, i_not_an, i_and_ao, i_and_aa, i_and_an, i_or_ao, i_or_aa, i_or_an, k_all, k_none, k_not, k_and, k_or, x1_0, x2_0, x2_1, x3_0, x3_1, x3_2, l1_0, l2_0, l2_1, KX.s1, KX.s2, KX.s3, it_t, it_l, ln1, ln2, ln3, ll0, ll1, ll2, ne11, ne22, ne33, eq22, eq02, List.isEmpty_cons, List.isEmpty_nil, Bool.not_false, Bool.not_true, tt, tu_l, li_t, m0, m1, m2, m4, t0, t1, t2, t3, n0, c0, al_0, an_0, al_1, al_2, an_2, f0, isi_t, is_str, bt, bs, bss, noE, part_e]
        rfl
      · rw [iha]
        simp only [pb, asc, thB, thN, thR, thI, bB, ntn, ntf, ittr, itfa, itT, itF, v0, v1, f1e, f2e, dR, dX, q_all_all, q_all_none, q_all_name, q_all_not, q_all_and, q_all_or, q_none_all, q_none_none, q_none_name, q_none_not, q_none_and, q_none_or, q_name_all, q_name_none, q_name_name, q_name_not, q_name_and, q_name_or, q_not_all, q_not_none, q_not_name, q_not_not, q_not_and, q_not_or, q_and_all, q_and_none, q_and_name, q_and_not, q_and_and, q_and_or, q_or_all, q_or_none, q_or_name, q_or_not, q_or_and, q_or_or, i_all_ao, i_all_aa, i_all_an, i_none_ao, i_none_aa, i_none_an, i_name_ao, i_name_aa, i_name_an, i_not_ao, i_not_aa, i_not_an, i_and_ao, i_and_aa, i_and_an, i_or_ao, i_or_aa, i_or_an, k_all, k_none, k_not, k_and, k_or, x1_0, x2_0, x2_1, x3_0, x3_1, x3_2, l1_0, l2_0, l2_1, KX.s1, KX.s2, KX.s3, it_t, it_l, ln1, ln2, ln3, ll0, ll1, ll2, ne11, ne22, ne33, eq22, eq02, List.isEmpty_cons, List.isEmpty_nil, Bool.not_false, Bool.not_true, tt, tu_l, li_t, m0, m1, m2, m4, t0, t1, t2, t3, n0, c0, al_0, an_0, al_1, al_2, an_2, f0, isi_t, is_str, bt, bs, bss, noE, part_e]
        rw [add_l (by simp; omega)]
        simp only [pb, asc, thB, thN, thR, thI, bB, ntn, ntf, ittr, itfa, itT, itF, v0, v1, f1e, f2e, dR, dX, q_all_all, q_all_none, q_all_name, q_all_not, q_all_and, q_all_or, q_none_all, q_none_none, q_none_name, q_none_not, q_none_and, q_none_or, q_name_all, q_name_none, q_name_name, q_name_not, q_name_and, q_name_or, q_not_all, q_not_none, q_not_name, q_not_not, q_not_and, q_not_or, q_and_all, q_and_none, q_and_name, q_and_not, q_and_and, q_and_or, q_or_all, q_or_none, q_or_name, q_or_not, q_or_and, q_or_or, i_all_ao, i_all_aa, i_all_an, i_none_ao, i_none_aa, i_none_an, i_name_ao, i_name_aa, i_name_an, i_not_ao, i_not_aa, i_not_an, i_and_ao, i_and_aa, i_and_an, i_or_ao, i_or_aa, i_or_an, k_all, k_none, k_not, k_and, k_or, x1_0, x2_0, x2_1, x3_0, x3_1, x3_2, l1_0, l2_0, l2_1, KX.s1, KX.s2, KX.s3, it_t, it_l, ln1, ln2, ln3, ll0, ll1, ll2, ne11, ne22, ne33, eq22, eq02, List.isEmpty_cons, List.isEmpty_nil, Bool.not_false, Bool.not_true, tt, tu_l, li_t, m0, m1, m2, m4, t0, t1, t2, t3, n0, c0, al_0, an_0, al_1, al_2, an_2, f0, isi_t, is_str, bt, bs, bss, noE, part_e]
      · rw [ihb]
        simp only [pb, asc, thB, thN, thR, thI, bB, ntn, ntf, ittr, itfa, itT, itF, v0, v1, f1e, f2e, dR, dX, q_all_all, q_all_none, q_all_name, q_all_not, q_all_and, q_all_or, q_none_all, q_none_none, q_none_name, q_none_not, q_none_and, q_none_or, q_name_all, q_name_none, q_name_name, q_name_not, q_name_and, q_name_or, q_not_all, q_not_none, q_not_name, q_not_not, q_not_and, q_not_or, q_and_all, q_and_none, q_and_name, q_and_not, q_and_and, q_and_or, q_or_all, q_or_none, q_or_name, q_or_not, q_or_and, q_or_or, i_all_ao, i_all_aa, i_all_an, i_none_ao, i_none_aa, i_none_an, i_name_ao, i_name_aa, i_name_an, i_not_ao, i_not_aa, i_not_an, i_and_ao, i_and_aa, i_and_an, i_or_ao, i_or_aa, i_or_an, k_all, k_none, k_not, k_and, k_or, x1_0, x2_0, x2_1, x3_0, x3_1, x3_2, l1_0, l2_0, l2_1, KX.s1, KX.s2, KX.s3, it_t, it_l, ln1, ln2, ln3, ll0, ll1, ll2, ne11, ne22, ne33, eq22, eq02, List.isEmpty_cons, List.isEmpty_nil, Bool.not_false, Bool.not_true, tt, tu_l, li_t, m0, m1, m2, m4, t0, t1, t2, t3, n0, c0, al_0, an_0, al_1, al_2, an_2, f0, isi_t, is_str, bt, bs, bss, noE, part_e]
        rw [add_l (by simp; omega)]
        simp only [pb, asc, thB, thN, thR, thI, bB, ntn, ntf, ittr, itfa, itT, itF, v0, v1, f1e, f2e, dR, dX, q_all_all, q_all_none, q_all_name, q_all_not, q_all_and, q_all_or, q_none_all, q_none_none, q_none_name, q_none_not, q_none_and, q_none_or, q_name_all, q_name_none, q_name_name, q_name_not, q_name_and, q_name_or, q_not_all, q_not_none, q_not_name, q_not_not, q_not_and, q_not_or, q_and_all, q_and_none, q_and_name, q_and_not, q_and_and, q_and_or, q_or_all, q_or_none, q_or_name, q_or_not, q_or_and, q_or_or, i_all_ao, i_all_aa, i_all_an, i_none_ao, i_none_aa, i_none_an, i_name_ao, i_name_aa, i_name_an, i_not_ao, i_not_aa, i_not_an, i_and_ao, i_and_aa, i_and_an, i_or_ao, i_or_aa, i_or_an, k_all, k_none, k_not, k_and, k_or, x1_0, x2_0, x2_1, x3_0, x3_1, x3_2, l1_0, l2_0, l2_1, KX.s1, KX.s2, KX.s3, it_t, it_l, ln1, ln2, ln3, ll0, ll1, ll2, ne11, ne22, ne33, eq22, eq02, List.isEmpty_cons, List.isEmpty_nil, Bool.not_false, Bool.not_true, tt, tu_l, li_t, m0, m1, m2, m4, t0, t1, t2, t3, n0, c0, al_0, an_0, al_1, al_2, an_2, f0, isi_t, is_str, bt, bs, bss, noE, part_e]
    · show m_tuples_in (g_tuples_in n) (.tup [.str (Str.ofString "and"), a.enc, b.enc]) = _
      unfold m_tuples_in
      simp only [pb, asc, thB, thN, thR, thI, bB, ntn, ntf, ittr, itfa, itT, itF, v0, v1, f1e, f2e, dR, dX, q_all_all, q_all_none, q_all_name, q_all_not, q_all_and, q_all_or, q_none_all, q_none_none, q_none_name, q_none_not, q_none_and, q_none_or, q_name_all, q_name_none, q_name_name, q_name_not, q_name_and, q_name_or, q_not_all, q_not_none, q_not_name, q_not_not, q_not_and, q_not_or, q_and_all, q_and_none, q_and_name, q_and_not, q_and_and, q_and_or, q_or_all, q_or_none, q_or_name, q_or_not, q_or_and, q_or_or, i_all_ao, i_all_aa, i_all_an, i_none_ao, i_none_aa, i_none_an, i_name_ao, i_name_aa, i_name_an, i_not_ao, i_not_aa, i_not_an, i_and_ao, i_and_aa, i_and_an, i_or_ao, i_or_aa, i_or_an, k_all, k_none, k_not, k_and, k_or, x1_0, x2_0, x2_1, x3_0, x3_1, x3_2, l1_0, l2_0, l2_1, KX.s1, KX.s2, KX.s3, it_t, it_l, ln1, ln2, ln3, ll0, ll1, ll2, ne11, ne22, ne33, eq22, eq02, List.isEmpty_cons, List.isEmpty_nil, Bool.not_false, Bool.not_true, tt, tu_l, li_t, m0, m1, m2, m4, t0, t1, t2, t3, n0, c0, al_0, an_0, al_1, al_2, an_2, f0, isi_t, is_str, bt, bs, bss, noE, part_e]
      rw [f_2 (a' := .lst ([.tup [.str (Str.ofString "and"), a.enc, b.enc]] ++ a.subs)) (a'' := .lst ([.tup [.str (Str.ofString "and"), a.enc, b.enc]] ++ a.subs ++ b.subs))]
      · simp only [pb, asc, thB, thN, thR, thI, bB, ntn, ntf, ittr, itfa, itT, itF, v0, v1, f1e, f2e, dR, dX, q_all_all, q_all_none, q_all_name, q_all_not, q_all_and, q_all_or, q_none_all, q_none_none, q_none_name, q_none_not, q_none_and, q_none_or, q_name_all, q_name_none, q_name_name, q_name_not, q_name_and, q_name_or, q_not_all, q_not_none, q_not_name, q_not_not, q_not_and, q_not_or, q_and_all, q_and_none, q_and_name, q_and_not, q_and_and, q_and_or, q_or_all, q_or_none, q_or_name, q_or_not, q_or_and, q_or_or, i_all_ao, i_all_aa, i_all_an, i_none_ao, i_none_aa, i_none_an, i_name_ao, i_name_aa, i_name_an, i_not_ao, i_not_aa, i_not_an, i_and_ao, i_and_aa, i_and_an, i_or_ao, i_or_aa, i_or_an, k_all, k_none, k_not, k_and, k_or, x1_0, x2_0, x2_1, x3_0, x3_1, x3_2, l1_0, l2_0, l2_1, KX.s1, KX.s2, KX.s3, it_t, it_l, ln1, ln2, ln3, ll0, ll1, ll2, ne11, ne22, ne33, eq22, eq02, List.isEmpty_cons, List.isEmpty_nil, Bool.not_false, Bool.not_true, tt, tu_l, li_t, m0, m1, m2, m4, t0, t1, t2, t3, n0, c0, al_0, an_0, al_1, al_2, an_2, f0, isi_t, is_str, bt, bs, bss, noE, part_e]
        rfl
      · rw [iha]
        simp only [pb, asc, thB, thN, thR, thI, bB, ntn, ntf, ittr, itfa, itT, itF, v0, v1, f1e, f2e, dR, dX, q_all_all, q_all_none, q_all_name, q_all_not, q_all_and, q_all_or, q_none_all, q_none_none, q_none_name, q_none_not, q_none_and, q_none_or, q_name_all, q_name_none, q_name_name, q_name_not, q_name_and, q_name_or, q_not_all, q_not_none, q_not_name, q_not_not, q_not_and, q_not_or, q_and_all, q_and_none, q_and_name, q_and_not, q_and_and, q_and_or, q_or_all, q_or_none, q_or_name, q_or_not, q_or_and, q_or_or, i_all_ao, i_all_aa, i_all_an, i_none_ao, i_none_aa, i_none_an, i_name_ao, i_name_aa, i_name_an, i_not_ao, i_not_aa, i_not_an, i_and_ao, i_and_aa, i_and_an, i_or_ao, i_or_aa, i_or_an, k_all, k_none, k_not, k_and, k_or, x1_0, x2_0, x2_1, x3_0, x3_1, x3_2, l1_0, l2_0, l2_1, KX.s1, KX.s2, KX.s3, it_t, it_l, ln1, ln2, ln3, ll0, ll1, ll2, ne11, ne22, ne33, eq22, eq02, List.isEmpty_cons, List.isEmpty_nil, Bool.not_false, Bool.not_true, tt, tu_l, li_t, m0, m1, m2, m4, t0, t1, t2, t3, n0, c0, al_0, an_0, al_1, al_2, an_2, f0, isi_t, is_str, bt, bs, bss, noE, part_e]
        rw [add_l (by simp; omega)]
        simp only [pb, asc, thB, thN, thR, thI, bB, ntn, ntf, ittr, itfa, itT, itF, v0, v1, f1e, f2e, dR, dX, q_all_all, q_all_none, q_all_name, q_all_not, q_all_and, q_all_or, q_none_all, q_none_none, q_none_name, q_none_not, q_none_and, q_none_or, q_name_all, q_name_none, q_name_name, q_name_not, q_name_and, q_name_or, q_not_all, q_not_none, q_not_name, q_not_not, q_not_and, q_not_or, q_and_all, q_and_none, q_and_name, q_and_not, q_and_and, q_and_or, q_or_all, q_or_none, q_or_name, q_or_not, q_or_and, q_or_or, i_all_ao, i_all_aa, i_all_an, i_none_ao, i_none_aa, i_none_an, i_name_ao, i_name_aa, i_name_an, i_not_ao, i_not_aa, i_not_an, i_and_ao, i_and_aa, i_and_an, i_or_ao, i_or_aa, i_or_an, k_all, k_none, k_not, k_and, k_or, x1_0, x2_0, x2_1, x3_0, x3_1, x3_2, l1_0, l2_0, l2_1, KX.s1, KX.s2, KX.s3, it_t, it_l, ln1, ln2, ln3, ll0, ll1, ll2, ne11, ne22, ne33, eq22, eq02, List.isEmpty_cons, List.isEmpty_nil, Bool.not_false, Bool.not_true, tt, tu_l, li_t, m0, m1, m2, m4, t0, t1, t2, t3, n0, c0, al_0, an_0, al_1, al_2, an_2, f0, isi_t, is_str, bt, bs, bss, noE, part_e]
      · rw [ihb]
        simp only [pb, asc, thB, thN, thR, thI, bB, ntn, ntf, ittr, itfa, itT, itF, v0, v1, f1e, f2e, dR, dX, q_all_all, q_all_none, q_all_name, q_all_not, q_all_and, q_all_or, q_none_all, q_none_none, q_none_name, q_none_not, q_none_and, q_none_or, q_name_all, q_name_none, q_name_name, q_name_not, q_name_and, q_name_or, q_not_all, q_not_none, q_not_name, q_not_not, q_not_and, q_not_or, q_and_all, q_and_none, q_and_name, q_and_not, q_and_and, q_and_or, q_or_all, q_or_none, q_or_name, q_or_not, q_or_and, q_or_or, i_all_ao, i_all_aa, i_all_an, i_none_ao, i_none_aa, i_none_an, i_name_ao, i_name_aa, i_name_an, i_not_ao, i_not_aa, i_not_an, i_and_ao, i_and_aa, i_and_an, i_or_ao, i_or_aa, i_or_an, k_all, k_none, k_not, k_and, k_or, x1_0, x2_0, x2_1, x3_0, x3_1, x3_2, l1_0, l2_0, l2_1, KX.s1, KX.s2, KX.s3, it_t, it_l, ln1, ln2, ln3, ll0, ll1, ll2, ne11, ne22, ne33, eq22, eq02, List.isEmpty_cons, List.isEmpty_nil, Bool.not_false, Bool.not_true, tt, tu_l, li_t, m0, m1, m2, m4, t0, t1, t2, t3, n0, c0, al_0, an_0, al_1, al_2, an_2, f0, isi_t, is_str, bt, bs, bss, noE, part_e]
        rw [add_l (by simp; omega)]
        simp only [pb, asc, thB, thN, thR, thI, bB, ntn, ntf, ittr, itfa, itT, itF, v0, v1, f1e, f2e, dR, dX, q_all_all, q_all_none, q_all_name, q_all_not, q_all_and, q_all_or, q_none_all, q_none_none, q_none_name, q_none_not, q_none_and, q_none_or, q_name_all, q_name_none, q_name_name, q_name_not, q_name_and, q_name_or, q_not_all, q_not_none, q_not_name, q_not_not, q_not_and, q_not_or, q_and_all, q_and_none, q_and_name, q_and_not, q_and_and, q_and_or, q_or_all, q_or_none, q_or_name, q_or_not, q_or_and, q_or_or, i_all_ao, i_all_aa, i_all_an, i_none_ao, i_none_aa, i_none_an, i_name_ao, i_name_aa, i_name_an, i_not_ao, i_not_aa, i_not_an, i_and_ao, i_and_aa, i_and_an, i_or_ao, i_or_aa, i_or_an, k_all, k_none, k_not, k_and, k_or, x1_0, x2_0, x2_1, x3_0, x3_1, x3_2, l1_0, l2_0, l2_1, KX.s1, KX.s2, KX.s3, it_t, it_l, ln1, ln2, ln3, ll0, ll1, ll2, ne11, ne22, ne33, eq22, eq02, List.isEmpty_cons, List.isEmpty_nil, Bool.not_false, Bool.not_true, tt, tu_l, li_t, m0, m1, m2, m4, t0, t1, t2, t3, n0, c0, al_0, an_0, al_1, al_2, an_2, f0, isi_t, is_str, bt, bs, bss, noE, part_e]
theorem ct1 {t : D → M Bool} {e : D → M D} {a b : D} (ht : t a = Pure.pure true) (h : e a = Pure.pure b) : compF t e [a] = Pure.pure [b] := by
  unfold compF
  rw [ht, noE, pb, ittr, h, noE, pb, c0, noE, pb]
theorem ct2 {t : D → M Bool} {e : D → M D} {a b c d : D} (ht : t a = Pure.pure true) (h : e a = Pure.pure b) (ht2 : t c = Pure.pure true) (h2 : e c = Pure.pure d) : compF t e [a, c] = Pure.pure [b, d] := by
  unfold compF
  rw [ht, noE, pb, ittr, h, noE, pb, ct1 ht2 h2, noE, pb]
theorem txs_map (ys : List Str) : txs (ys.map .str) = some ys := by
  induction ys with
  | nil => rfl
  | cons y ys ih => show (txs _).map _ = _; rw [ih]; rfl
theorem ssx {ys : List Str} (h : ys.length < 4000) : sortSetX (.lst (ys.map .str)) = Pure.pure (.lst ((SX.srtS ys).map .str)) := by
  show (match txs (ys.map .str) with | some ys => if ys.length < 4000 then Pure.pure (D.lst ((SX.srtS ys).map .str)) else M.no | none => M.no) = _
  rw [txs_map]
  exact if_pos h
theorem srt_srt (a : List Str) : SX.srtS (SX.srtS a) = SX.srtS a := SX.srtS_self SX.srtS_asc
theorem srt_app (a b : List Str) : SX.srtS (SX.srtS a ++ SX.srtS b) = SX.srtS (a ++ b) := by
  have h : SX.srtS (SX.srtS a ++ SX.srtS b) = SX.srtS (a ++ b) := SX.srtS_is (l := a ++ b) SX.srtS_asc fun y => by
    rw [SX.srtS_mem, List.mem_append, List.mem_append, SX.srtS_mem, SX.srtS_mem]
  exact h
theorem words_e : ∀ (t : Tr) (n : Nat), t.dep ≤ n → t.dep ≤ 10 → g_l_words_in n [.v t.enc] = Pure.pure (.tup ((SX.srtS t.names).map .str))
  | t, 0, h, _ => by cases t <;> simp [Tr.dep] at h
  | .all, n + 1, _, _ => by
    show m_l_words_in (g_l_words_in n) (.tup [.str (Str.ofString "all")]) = _
    unfold m_l_words_in
    simp only [pb, asc, thB, thN, thR, thI, bB, ntn, ntf, ittr, itfa, itT, itF, v0, v1, f1e, f2e, dR, dX, q_all_all, q_all_none, q_all_name, q_all_not, q_all_and, q_all_or, q_none_all, q_none_none, q_none_name, q_none_not, q_none_and, q_none_or, q_name_all, q_name_none, q_name_name, q_name_not, q_name_and, q_name_or, q_not_all, q_not_none, q_not_name, q_not_not, q_not_and, q_not_or, q_and_all, q_and_none, q_and_name, q_and_not, q_and_and, q_and_or, q_or_all, q_or_none, q_or_name, q_or_not, q_or_and, q_or_or, i_all_ao, i_all_aa, i_all_an, i_none_ao, i_none_aa, i_none_an, i_name_ao, i_name_aa, i_name_an, i_not_ao, i_not_aa, i_not_an, i_and_ao, i_and_aa, i_and_an, i_or_ao, i_or_aa, i_or_an, k_all, k_none, k_not, k_and, k_or, x1_0, x2_0, x2_1, x3_0, x3_1, x3_2, l1_0, l2_0, l2_1, KX.s1, KX.s2, KX.s3, it_t, it_l, ln1, ln2, ln3, ll0, ll1, ll2, ne11, ne22, ne33, eq22, eq02, List.isEmpty_cons, List.isEmpty_nil, Bool.not_false, Bool.not_true, tt, tu_l, li_t, m0, m1, m2, m4, t0, t1, t2, t3, n0, c0, al_0, an_0, al_1, al_2, an_2, f0, isi_t, is_str, bt, bs, bss, noE, part_e]
    rw [show D.lst [] = .lst (([] : List Str).map .str) from rfl, ssx (by decide)]
    simp only [pb, asc, thB, thN, thR, thI, bB, ntn, ntf, ittr, itfa, itT, itF, v0, v1, f1e, f2e, dR, dX, q_all_all, q_all_none, q_all_name, q_all_not, q_all_and, q_all_or, q_none_all, q_none_none, q_none_name, q_none_not, q_none_and, q_none_or, q_name_all, q_name_none, q_name_name, q_name_not, q_name_and, q_name_or, q_not_all, q_not_none, q_not_name, q_not_not, q_not_and, q_not_or, q_and_all, q_and_none, q_and_name, q_and_not, q_and_and, q_and_or, q_or_all, q_or_none, q_or_name, q_or_not, q_or_and, q_or_or, i_all_ao, i_all_aa, i_all_an, i_none_ao, i_none_aa, i_none_an, i_name_ao, i_name_aa, i_name_an, i_not_ao, i_not_aa, i_not_an, i_and_ao, i_and_aa, i_and_an, i_or_ao, i_or_aa, i_or_an, k_all, k_none, k_not, k_and, k_or, x1_0, x2_0, x2_1, x3_0, x3_1, x3_2, l1_0, l2_0, l2_1, KX.s1, KX.s2, KX.s3, it_t, it_l, ln1, ln2, ln3, ll0, ll1, ll2, ne11, ne22, ne33, eq22, eq02, List.isEmpty_cons, List.isEmpty_nil, Bool.not_false, Bool.not_true, tt, tu_l, li_t, m0, m1, m2, m4, t0, t1, t2, t3, n0, c0, al_0, an_0, al_1, al_2, an_2, f0, isi_t, is_str, bt, bs, bss, noE, part_e]
    rfl
  | .non, n + 1, _, _ => by
    show m_l_words_in (g_l_words_in n) (.tup [.str (Str.ofString "none")]) = _
    unfold m_l_words_in
    simp only [pb, asc, thB, thN, thR, thI, bB, ntn, ntf, ittr, itfa, itT, itF, v0, v1, f1e, f2e, dR, dX, q_all_all, q_all_none, q_all_name, q_all_not, q_all_and, q_all_or, q_none_all, q_none_none, q_none_name, q_none_not, q_none_and, q_none_or, q_name_all, q_name_none, q_name_name, q_name_not, q_name_and, q_name_or, q_not_all, q_not_none, q_not_name, q_not_not, q_not_and, q_not_or, q_and_all, q_and_none, q_and_name, q_and_not, q_and_and, q_and_or, q_or_all, q_or_none, q_or_name, q_or_not, q_or_and, q_or_or, i_all_ao, i_all_aa, i_all_an, i_none_ao, i_none_aa, i_none_an, i_name_ao, i_name_aa, i_name_an, i_not_ao, i_not_aa, i_not_an, i_and_ao, i_and_aa, i_and_an, i_or_ao, i_or_aa, i_or_an, k_all, k_none, k_not, k_and, k_or, x1_0, x2_0, x2_1, x3_0, x3_1, x3_2, l1_0, l2_0, l2_1, KX.s1, KX.s2, KX.s3, it_t, it_l, ln1, ln2, ln3, ll0, ll1, ll2, ne11, ne22, ne33, eq22, eq02, List.isEmpty_cons, List.isEmpty_nil, Bool.not_false, Bool.not_true, tt, tu_l, li_t, m0, m1, m2, m4, t0, t1, t2, t3, n0, c0, al_0, an_0, al_1, al_2, an_2, f0, isi_t, is_str, bt, bs, bss, noE, part_e]
    rw [show D.lst [] = .lst (([] : List Str).map .str) from rfl, ssx (by decide)]
    simp only [pb, asc, thB, thN, thR, thI, bB, ntn, ntf, ittr, itfa, itT, itF, v0, v1, f1e, f2e, dR, dX, q_all_all, q_all_none, q_all_name, q_all_not, q_all_and, q_all_or, q_none_all, q_none_none, q_none_name, q_none_not, q_none_and, q_none_or, q_name_all, q_name_none, q_name_name, q_name_not, q_name_and, q_name_or, q_not_all, q_not_none, q_not_name, q_not_not, q_not_and, q_not_or, q_and_all, q_and_none, q_and_name, q_and_not, q_and_and, q_and_or, q_or_all, q_or_none, q_or_name, q_or_not, q_or_and, q_or_or, i_all_ao, i_all_aa, i_all_an, i_none_ao, i_none_aa, i_none_an, i_name_ao, i_name_aa, i_name_an, i_not_ao, i_not_aa, i_not_an, i_and_ao, i_and_aa, i_and_an, i_or_ao, i_or_aa, i_or_an, k_all, k_none, k_not, k_and, k_or, x1_0, x2_0, x2_1, x3_0, x3_1, x3_2, l1_0, l2_0, l2_1, KX.s1, KX.s2, KX.s3, it_t, it_l, ln1, ln2, ln3, ll0, ll1, ll2, ne11, ne22, ne33, eq22, eq02, List.isEmpty_cons, List.isEmpty_nil, Bool.not_false, Bool.not_true, tt, tu_l, li_t, m0, m1, m2, m4, t0, t1, t2, t3, n0, c0, al_0, an_0, al_1, al_2, an_2, f0, isi_t, is_str, bt, bs, bss, noE, part_e]
    rfl
  | .nam w, n + 1, _, _ => by
    show m_l_words_in (g_l_words_in n) (.tup [.str (Str.ofString "name"), .str w]) = _
    unfold m_l_words_in
    simp only [pb, asc, thB, thN, thR, thI, bB, ntn, ntf, ittr, itfa, itT, itF, v0, v1, f1e, f2e, dR, dX, q_all_all, q_all_none, q_all_name, q_all_not, q_all_and, q_all_or, q_none_all, q_none_none, q_none_name, q_none_not, q_none_and, q_none_or, q_name_all, q_name_none, q_name_name, q_name_not, q_name_and, q_name_or, q_not_all, q_not_none, q_not_name, q_not_not, q_not_and, q_not_or, q_and_all, q_and_none, q_and_name, q_and_not, q_and_and, q_and_or, q_or_all, q_or_none, q_or_name, q_or_not, q_or_and, q_or_or, i_all_ao, i_all_aa, i_all_an, i_none_ao, i_none_aa, i_none_an, i_name_ao, i_name_aa, i_name_an, i_not_ao, i_not_aa, i_not_an, i_and_ao, i_and_aa, i_and_an, i_or_ao, i_or_aa, i_or_an, k_all, k_none, k_not, k_and, k_or, x1_0, x2_0, x2_1, x3_0, x3_1, x3_2, l1_0, l2_0, l2_1, KX.s1, KX.s2, KX.s3, it_t, it_l, ln1, ln2, ln3, ll0, ll1, ll2, ne11, ne22, ne33, eq22, eq02, List.isEmpty_cons, List.isEmpty_nil, Bool.not_false, Bool.not_true, tt, tu_l, li_t, m0, m1, m2, m4, t0, t1, t2, t3, n0, c0, al_0, an_0, al_1, al_2, an_2, f0, isi_t, is_str, bt, bs, bss, noE, part_e]
    rfl
  | .nt t, n + 1, h, hl => by
    have ih := words_e t n (by simp [Tr.dep] at h; omega) (by simp [Tr.dep] at hl; omega)
    have z := names_len t
    have z2 := pow_line (show t.dep ≤ 12 by simp [Tr.dep] at hl; omega)
    have z3 := SX.srtS_length (l := t.names)
    have z4 : 2 ^ t.dep ≤ 1024 := pow10 (by simp [Tr.dep] at hl; omega)
    show m_l_words_in (g_l_words_in n) (.tup [.str (Str.ofString "not"), t.enc]) = _
    unfold m_l_words_in
    simp only [pb, asc, thB, thN, thR, thI, bB, ntn, ntf, ittr, itfa, itT, itF, v0, v1, f1e, f2e, dR, dX, q_all_all, q_all_none, q_all_name, q_all_not, q_all_and, q_all_or, q_none_all, q_none_none, q_none_name, q_none_not, q_none_and, q_none_or, q_name_all, q_name_none, q_name_name, q_name_not, q_name_and, q_name_or, q_not_all, q_not_none, q_not_name, q_not_not, q_not_and, q_not_or, q_and_all, q_and_none, q_and_name, q_and_not, q_and_and, q_and_or, q_or_all, q_or_none, q_or_name, q_or_not, q_or_and, q_or_or, i_all_ao, i_all_aa, i_all_an, i_none_ao, i_none_aa, i_none_an, i_name_ao, i_name_aa, i_name_an, i_not_ao, i_not_aa, i_not_an, i_and_ao, i_and_aa, i_and_an, i_or_ao, i_or_aa, i_or_an, k_all, k_none, k_not, k_and, k_or, x1_0, x2_0, x2_1, x3_0, x3_1, x3_2, l1_0, l2_0, l2_1, KX.s1, KX.s2, KX.s3, it_t, it_l, ln1, ln2, ln3, ll0, ll1, ll2, ne11, ne22, ne33, eq22, eq02, List.isEmpty_cons, List.isEmpty_nil, Bool.not_false, Bool.not_true, tt, tu_l, li_t, m0, m1, m2, m4, t0, t1, t2, t3, n0, c0, al_0, an_0, al_1, al_2, an_2, f0, isi_t, is_str, bt, bs, bss, noE, part_e]
    rw [f_1 (a' := .lst ((SX.srtS t.names).map .str))]
    · simp only [pb, asc, thB, thN, thR, thI, bB, ntn, ntf, ittr, itfa, itT, itF, v0, v1, f1e, f2e, dR, dX, q_all_all, q_all_none, q_all_name, q_all_not, q_all_and, q_all_or, q_none_all, q_none_none, q_none_name, q_none_not, q_none_and, q_none_or, q_name_all, q_name_none, q_name_name, q_name_not, q_name_and, q_name_or, q_not_all, q_not_none, q_not_name, q_not_not, q_not_and, q_not_or, q_and_all, q_and_none, q_and_name, q_and_not, q_and_and, q_and_or, q_or_all, q_or_none, q_or_name, q_or_not, q_or_and, q_or_or, i_all_ao, i_all_aa, i_all_an, i_none_ao, i_none_aa, i_none_an, i_name_ao, i_name_aa, i_name_an, i_not_ao, i_not_aa, i_not_an, i_and_ao, i_and_aa, i_and_an, i_or_ao, i_or_aa, i_or_an, k_all, k_none, k_not, k_and, k_or, x1_0, x2_0, x2_1, x3_0, x3_1, x3_2, l1_0, l2_0, l2_1, KX.s1, KX.s2, KX.s3, it_t, it_l, ln1, ln2, ln3, ll0, ll1, ll2, ne11, ne22, ne33, eq22, eq02, List.isEmpty_cons, List.isEmpty_nil, Bool.not_false, Bool.not_true, tt, tu_l, li_t, m0, m1, m2, m4, t0, t1, t2, t3, n0, c0, al_0, an_0, al_1, al_2, an_2, f0, isi_t, is_str, bt, bs, bss, noE, part_e]
      rw [ssx (by omega), srt_srt]
      simp only [pb, asc, thB, thN, thR, thI, bB, ntn, ntf, ittr, itfa, itT, itF, v0, v1, f1e, f2e, dR, dX, q_all_all, q_all_none, q_all_name, q_all_not, q_all_and, q_all_or, q_none_all, q_none_none, q_none_name, q_none_not, q_none_and, q_none_or, q_name_all, q_name_none, q_name_name, q_name_not, q_name_and, q_name_or, q_not_all, q_not_none, q_not_name, q_not_not, q_not_and, q_not_or, q_and_all, q_and_none, q_and_name, q_and_not, q_and_and, q_and_or, q_or_all, q_or_none, q_or_name, q_or_not, q_or_and, q_or_or, i_all_ao, i_all_aa, i_all_an, i_none_ao, i_none_aa, i_none_an, i_name_ao, i_name_aa, i_name_an, i_not_ao, i_not_aa, i_not_an, i_and_ao, i_and_aa, i_and_an, i_or_ao, i_or_aa, i_or_an, k_all, k_none, k_not, k_and, k_or, x1_0, x2_0, x2_1, x3_0, x3_1, x3_2, l1_0, l2_0, l2_1, KX.s1, KX.s2, KX.s3, it_t, it_l, ln1, ln2, ln3, ll0, ll1, ll2, ne11, ne22, ne33, eq22, eq02, List.isEmpty_cons, List.isEmpty_nil, Bool.not_false, Bool.not_true, tt, tu_l, li_t, m0, m1, m2, m4, t0, t1, t2, t3, n0, c0, al_0, an_0, al_1, al_2, an_2, f0, isi_t, is_str, bt, bs, bss, noE, part_e]
      rfl
    · rw [ih]
      simp only [pb, asc, thB, thN, thR, thI, bB, ntn, ntf, ittr, itfa, itT, itF, v0, v1, f1e, f2e, dR, dX, q_all_all, q_all_none, q_all_name, q_all_not, q_all_and, q_all_or, q_none_all, q_none_none, q_none_name, q_none_not, q_none_and, q_none_or, q_name_all, q_name_none, q_name_name, q_name_not, q_name_and, q_name_or, q_not_all, q_not_none, q_not_name, q_not_not, q_not_and, q_not_or, q_and_all, q_and_none, q_and_name, q_and_not, q_and_and, q_and_or, q_or_all, q_or_none, q_or_name, q_or_not, q_or_and, q_or_or, i_all_ao, i_all_aa, i_all_an, i_none_ao, i_none_aa, i_none_an, i_name_ao, i_name_aa, i_name_an, i_not_ao, i_not_aa, i_not_an, i_and_ao, i_and_aa, i_and_an, i_or_ao, i_or_aa, i_or_an, k_all, k_none, k_not, k_and, k_or, x1_0, x2_0, x2_1, x3_0, x3_1, x3_2, l1_0, l2_0, l2_1, KX.s1, KX.s2, KX.s3, it_t, it_l, ln1, ln2, ln3, ll0, ll1, ll2, ne11, ne22, ne33, eq22, eq02, List.isEmpty_cons, List.isEmpty_nil, Bool.not_false, Bool.not_true, tt, tu_l, li_t, m0, m1, m2, m4, t0, t1, t2, t3, n0, c0, al_0, an_0, al_1, al_2, an_2, f0, isi_t, is_str, bt, bs, bss, noE, part_e]
      rw [add_l (by simp; omega)]
      simp only [pb, asc, thB, thN, thR, thI, bB, ntn, ntf, ittr, itfa, itT, itF, v0, v1, f1e, f2e, dR, dX, q_all_all, q_all_none, q_all_name, q_all_not, q_all_and, q_all_or, q_none_all, q_none_none, q_none_name, q_none_not, q_none_and, q_none_or, q_name_all, q_name_none, q_name_name, q_name_not, q_name_and, q_name_or, q_not_all, q_not_none, q_not_name, q_not_not, q_not_and, q_not_or, q_and_all, q_and_none, q_and_name, q_and_not, q_and_and, q_and_or, q_or_all, q_or_none, q_or_name, q_or_not, q_or_and, q_or_or, i_all_ao, i_all_aa, i_all_an, i_none_ao, i_none_aa, i_none_an, i_name_ao, i_name_aa, i_name_an, i_not_ao, i_not_aa, i_not_an, i_and_ao, i_and_aa, i_and_an, i_or_ao, i_or_aa, i_or_an, k_all, k_none, k_not, k_and, k_or, x1_0, x2_0, x2_1, x3_0, x3_1, x3_2, l1_0, l2_0, l2_1, KX.s1, KX.s2, KX.s3, it_t, it_l, ln1, ln2, ln3, ll0, ll1, ll2, ne11, ne22, ne33, eq22, eq02, List.isEmpty_cons, List.isEmpty_nil, Bool.not_false, Bool.not_true, tt, tu_l, li_t, m0, m1, m2, m4, t0, t1, t2, t3, n0, c0, al_0, an_0, al_1, al_2, an_2, f0, isi_t, is_str, bt, bs, bss, noE, part_e]
      rfl
  | .bin k a b, n + 1, h, hl => by
    have iha := words_e a n (by simp [Tr.dep] at h; omega) (by simp [Tr.dep] at hl; omega)
    have ihb := words_e b n (by simp [Tr.dep] at h; omega) (by simp [Tr.dep] at hl; omega)
    have za := names_len a
    have za3 := SX.srtS_length (l := a.names)
    have za4 : 2 ^ a.dep ≤ 1024 := pow10 (by simp [Tr.dep] at hl; omega)
    have zb := names_len b
    have zb3 := SX.srtS_length (l := b.names)
    have zb4 : 2 ^ b.dep ≤ 1024 := pow10 (by simp [Tr.dep] at hl; omega)
    cases k
    · show m_l_words_in (g_l_words_in n) (.tup [.str (Str.ofString "or"), a.enc, b.enc]) = _
      unfold m_l_words_in
      simp only [pb, asc, thB, thN, thR, thI, bB, ntn, ntf, ittr, itfa, itT, itF, v0, v1, f1e, f2e, dR, dX, q_all_all, q_all_none, q_all_name, q_all_not, q_all_and, q_all_or, q_none_all, q_none_none, q_none_name, q_none_not, q_none_and, q_none_or, q_name_all, q_name_none, q_name_name, q_name_not, q_name_and, q_name_or, q_not_all, q_not_none, q_not_name, q_not_not, q_not_and, q_not_or, q_and_all, q_and_none, q_and_name, q_and_not, q_and_and, q_and_or, q_or_all, q_or_none, q_or_name, q_or_not, q_or_and, q_or_or, i_all_ao, i_all_aa, i_all_an, i_none_ao, i_none_aa, i_none_an, i_name_ao, i_name_aa, i_name_an, i_not_ao, i_not_aa, i_not_an, i_and_ao, i_and_aa, i_and_an, i_or_ao, i_or_aa, i_or_an, k_all, k_none, k_not, k_and, k_or, x1_0, x2_0, x2_1, x3_0, x3_1, x3_2, l1_0, l2_0, l2_1, KX.s1, KX.s2, KX.s3, it_t, it_l, ln1, ln2, ln3, ll0, ll1, ll2, ne11, ne22, ne33, eq22, eq02, List.isEmpty_cons, List.isEmpty_nil, Bool.not_false, Bool.not_true, tt, tu_l, li_t, m0, m1, m2, m4, t0, t1, t2, t3, n0, c0, al_0, an_0, al_1, al_2, an_2, f0, isi_t, is_str, bt, bs, bss, noE, part_e]
      rw [f_2 (a' := .lst ((SX.srtS a.names).map .str)) (a'' := .lst ((SX.srtS a.names ++ SX.srtS b.names).map .str))]
      · simp only [pb, asc, thB, thN, thR, thI, bB, ntn, ntf, ittr, itfa, itT, itF, v0, v1, f1e, f2e, dR, dX, q_all_all, q_all_none, q_all_name, q_all_not, q_all_and, q_all_or, q_none_all, q_none_none, q_none_name, q_none_not, q_none_and, q_none_or, q_name_all, q_name_none, q_name_name, q_name_not, q_name_and, q_name_or, q_not_all, q_not_none, q_not_name, q_not_not, q_not_and, q_not_or, q_and_all, q_and_none, q_and_name, q_and_not, q_and_and, q_and_or, q_or_all, q_or_none, q_or_name, q_or_not, q_or_and, q_or_or, i_all_ao, i_all_aa, i_all_an, i_none_ao, i_none_aa, i_none_an, i_name_ao, i_name_aa, i_name_an, i_not_ao, i_not_aa, i_not_an, i_and_ao, i_and_aa, i_and_an, i_or_ao, i_or_aa, i_or_an, k_all, k_none, k_not, k_and, k_or, x1_0, x2_0, x2_1, x3_0, x3_1, x3_2, l1_0, l2_0, l2_1, KX.s1, KX.s2, KX.s3, it_t, it_l, ln1, ln2, ln3, ll0, ll1, ll2, ne11, ne22, ne33, eq22, eq02, List.isEmpty_cons, List.isEmpty_nil, Bool.not_false, Bool.not_true, tt, tu_l, li_t, m0, m1, m2, m4, t0, t1, t2, t3, n0, c0, al_0, an_0, al_1, al_2, an_2, f0, isi_t, is_str, bt, bs, bss, noE, part_e]
        rw [ssx (by simp; omega), srt_app]
        simp only [pb, asc, thB, thN, thR, thI, bB, ntn, ntf, ittr, itfa, itT, itF, v0, v1, f1e, f2e, dR, dX, q_all_all, q_all_none, q_all_name, q_all_not, q_all_and, q_all_or, q_none_all, q_none_none, q_none_name, q_none_not, q_none_and, q_none_or, q_name_all, q_name_none, q_name_name, q_name_not, q_name_and, q_name_or, q_not_all, q_not_none, q_not_name, q_not_not, q_not_and, q_not_or, q_and_all, q_and_none, q_and_name, q_and_not, q_and_and, q_and_or, q_or_all, q_or_none, q_or_name, q_or_not, q_or_and, q_or_or, i_all_ao, i_all_aa, i_all_an, i_none_ao, i_none_aa, i_none_an, i_name_ao, i_name_aa, i_name_an, i_not_ao, i_not_aa, i_not_an, i_and_ao, i_and_aa, i_and_an, i_or_ao, i_or_aa, i_or_an, k_all, k_none, k_not, k_and, k_or, x1_0, x2_0, x2_1, x3_0, x3_1, x3_2, l1_0, l2_0, l2_1, KX.s1, KX.s2, KX.s3, it_t, it_l, ln1, ln2, ln3, ll0, ll1, ll2, ne11, ne22, ne33, eq22, eq02, List.isEmpty_cons, List.isEmpty_nil, Bool.not_false, Bool.not_true, tt, tu_l, li_t, m0, m1, m2, m4, t0, t1, t2, t3, n0, c0, al_0, an_0, al_1, al_2, an_2, f0, isi_t, is_str, bt, bs, bss, noE, part_e]
        rfl
      · rw [iha]
        simp only [pb, asc, thB, thN, thR, thI, bB, ntn, ntf, ittr, itfa, itT, itF, v0, v1, f1e, f2e, dR, dX, q_all_all, q_all_none, q_all_name, q_all_not, q_all_and, q_all_or, q_none_all, q_none_none, q_none_name, q_none_not, q_none_and, q_none_or, q_name_all, q_name_none, q_name_name, q_name_not, q_name_and, q_name_or, q_not_all, q_not_none, q_not_name, q_not_not, q_not_and, q_not_or, q_and_all, q_and_none, q_and_name, q_and_not, q_and_and, q_and_or, q_or_all, q_or_none, q_or_name, q_or_not, q_or_and, q_or_or, i_all_ao, i_all_aa, i_all_an, i_none_ao, i_none_aa, i_none_an, i_name_ao, i_name_aa, i_name_an, i_not_ao, i_not_aa, i_not_an, i_and_ao, i_and_aa, i_and_an, i_or_ao, i_or_aa, i_or_an, k_all, k_none, k_not, k_and, k_or, x1_0, x2_0, x2_1, x3_0, x3_1, x3_2, l1_0, l2_0, l2_1, KX.s1, KX.s2, KX.s3, it_t, it_l, ln1, ln2, ln3, ll0, ll1, ll2, ne11, ne22, ne33, eq22, eq02, List.isEmpty_cons, List.isEmpty_nil, Bool.not_false, Bool.not_true, tt, tu_l, li_t, m0, m1, m2, m4, t0, t1, t2, t3, n0, c0, al_0, an_0, al_1, al_2, an_2, f0, isi_t, is_str, bt, bs, bss, noE, part_e]
        rw [add_l (by simp; omega)]
        simp only [pb, asc, thB, thN, thR, thI, bB, ntn, ntf, ittr, itfa, itT, itF, v0, v1, f1e, f2e, dR, dX, q_all_all, q_all_none, q_all_name, q_all_not, q_all_and, q_all_or, q_none_all, q_none_none, q_none_name, q_none_not, q_none_and, q_none_or, q_name_all, q_name_none, q_name_name, q_name_not, q_name_and, q_name_or, q_not_all, q_not_none, q_not_name, q_not_not, q_not_and, q_not_or, q_and_all, q_and_none, q_and_name, q_and_not, q_and_and, q_and_or, q_or_all, q_or_none, q_or_name, q_or_not, q_or_and, q_or_or, i_all_ao, i_all_aa, i_all_an, i_none_ao, i_none_aa, i_none_an, i_name_ao, i_name_aa, i_name_an, i_not_ao, i_not_aa, i_not_an, i_and_ao, i_and_aa, i_and_an, i_or_ao, i_or_aa, i_or_an, k_all, k_none, k_not, k_and, k_or, x1_0, x2_0, x2_1, x3_0, x3_1, x3_2, l1_0, l2_0, l2_1, KX.s1, KX.s2, KX.s3, it_t, it_l, ln1, ln2, ln3, ll0, ll1, ll2, ne11, ne22, ne33, eq22, eq02, List.isEmpty_cons, List.isEmpty_nil, Bool.not_false, Bool.not_true, tt, tu_l, li_t, m0, m1, m2, m4, t0, t1, t2, t3, n0, c0, al_0, an_0, al_1, al_2, an_2, f0, isi_t, is_str, bt, bs, bss, noE, part_e]
        rfl
      · rw [ihb]
        simp only [pb, asc, thB, thN, thR, thI, bB, ntn, ntf, ittr, itfa, itT, itF, v0, v1, f1e, f2e, dR, dX, q_all_all, q_all_none, q_all_name, q_all_not, q_all_and, q_all_or, q_none_all, q_none_none, q_none_name, q_none_not, q_none_and, q_none_or, q_name_all, q_name_none, q_name_name, q_name_not, q_name_and, q_name_or, q_not_all, q_not_none, q_not_name, q_not_not, q_not_and, q_not_or, q_and_all, q_and_none, q_and_name, q_and_not, q_and_and, q_and_or, q_or_all, q_or_none, q_or_name, q_or_not, q_or_and, q_or_or, i_all_ao, i_all_aa, i_all_an, i_none_ao, i_none_aa, i_none_an, i_name_ao, i_name_aa, i_name_an, i_not_ao, i_not_aa, i_not_an, i_and_ao, i_and_aa, i_and_an, i_or_ao, i_or_aa, i_or_an, k_all, k_none, k_not, k_and, k_or, x1_0, x2_0, x2_1, x3_0, x3_1, x3_2, l1_0, l2_0, l2_1, KX.s1, KX.s2, KX.s3, it_t, it_l, ln1, ln2, ln3, ll0, ll1, ll2, ne11, ne22, ne33, eq22, eq02, List.isEmpty_cons, List.isEmpty_nil, Bool.not_false, Bool.not_true, tt, tu_l, li_t, m0, m1, m2, m4, t0, t1, t2, t3, n0, c0, al_0, an_0, al_1, al_2, an_2, f0, isi_t, is_str, bt, bs, bss, noE, part_e]
        rw [add_l (by simp; omega)]
        simp only [pb, asc, thB, thN, thR, thI, bB, ntn, ntf, ittr, itfa, itT, itF, v0, v1, f1e, f2e, dR, dX, q_all_all, q_all_none, q_all_name, q_all_not, q_all_and, q_all_or, q_none_all, q_none_none, q_none_name, q_none_not, q_none_and, q_none_or, q_name_all, q_name_none, q_name_name, q_name_not, q_name_and, q_name_or, q_not_all, q_not_none, q_not_name, q_not_not, q_not_and, q_not_or, q_and_all, q_and_none, q_and_name, q_and_not, q_and_and, q_and_or, q_or_all, q_or_none, q_or_name, q_or_not, q_or_and, q_or_or, i_all_ao, i_all_aa, i_all_an, i_none_ao, i_none_aa, i_none_an, i_name_ao, i_name_aa, i_name_an, i_not_ao, i_not_aa, i_not_an, i_and_ao, i_and_aa, i_and_an, i_or_ao, i_or_aa, i_or_an, k_all, k_none, k_not, k_and, k_or, x1_0, x2_0, x2_1, x3_0, x3_1, x3_2, l1_0, l2_0, l2_1, KX.s1, KX.s2, KX.s3, it_t, it_l, ln1, ln2, ln3, ll0, ll1, ll2, ne11, ne22, ne33, eq22, eq02, List.isEmpty_cons, List.isEmpty_nil, Bool.not_false, Bool.not_true, tt, tu_l, li_t, m0, m1, m2, m4, t0, t1, t2, t3, n0, c0, al_0, an_0, al_1, al_2, an_2, f0, isi_t, is_str, bt, bs, bss, noE, part_e]
        rw [List.map_append]
    · show m_l_words_in (g_l_words_in n) (.tup [.str (Str.ofString "and"), a.enc, b.enc]) = _
      unfold m_l_words_in
      simp only [pb, asc, thB, thN, thR, thI, bB, ntn, ntf, ittr, itfa, itT, itF, v0, v1, f1e, f2e, dR, dX, q_all_all, q_all_none, q_all_name, q_all_not, q_all_and, q_all_or, q_none_all, q_none_none, q_none_name, q_none_not, q_none_and, q_none_or, q_name_all, q_name_none, q_name_name, q_name_not, q_name_and, q_name_or, q_not_all, q_not_none, q_not_name, q_not_not, q_not_and, q_not_or, q_and_all, q_and_none, q_and_name, q_and_not, q_and_and, q_and_or, q_or_all, q_or_none, q_or_name, q_or_not, q_or_and, q_or_or, i_all_ao, i_all_aa, i_all_an, i_none_ao, i_none_aa, i_none_an, i_name_ao, i_name_aa, i_name_an, i_not_ao, i_not_aa, i_not_an, i_and_ao, i_and_aa, i_and_an, i_or_ao, i_or_aa, i_or_an, k_all, k_none, k_not, k_and, k_or, x1_0, x2_0, x2_1, x3_0, x3_1, x3_2, l1_0, l2_0, l2_1, KX.s1, KX.s2, KX.s3, it_t, it_l, ln1, ln2, ln3, ll0, ll1, ll2, ne11, ne22, ne33, eq22, eq02, List.isEmpty_cons, List.isEmpty_nil, Bool.not_false, Bool.not_true, tt, tu_l, li_t, m0, m1, m2, m4, t0, t1, t2, t3, n0, c0, al_0, an_0, al_1, al_2, an_2, f0, isi_t, is_str, bt, bs, bss, noE, part_e]
      rw [f_2 (a' := .lst ((SX.srtS a.names).map .str)) (a'' := .lst ((SX.srtS a.names ++ SX.srtS b.names).map .str))]
      · simp only [pb, asc, thB, thN, thR, thI, bB, ntn, ntf, ittr, itfa, itT, itF, v0, v1, f1e, f2e, dR, dX, q_all_all, q_all_none, q_all_name, q_all_not, q_all_and, q_all_or, q_none_all, q_none_none, q_none_name, q_none_not, q_none_and, q_none_or, q_name_all, q_name_none, q_name_name, q_name_not, q_name_and, q_name_or, q_not_all, q_not_none, q_not_name, q_not_not, q_not_and, q_not_or, q_and_all, q_and_none, q_and_name, q_and_not, q_and_and, q_and_or, q_or_all, q_or_none, q_or_name, q_or_not, q_or_and, q_or_or, i_all_ao, i_all_aa, i_all_an, i_none_ao, i_none_aa, i_none_an, i_name_ao, i_name_aa, i_name_an, i_not_ao, i_not_aa, i_not_an, i_and_ao, i_and_aa, i_and_an, i_or_ao, i_or_aa, i_or_an, k_all, k_none, k_not, k_and, k_or, x1_0, x2_0, x2_1, x3_0, x3_1, x3_2, l1_0, l2_0, l2_1, KX.s1, KX.s2, KX.s3, it_t, it_l, ln1, ln2, ln3, ll0, ll1, ll2, ne11, ne22, ne33, eq22, eq02, List.isEmpty_cons, List.isEmpty_nil, Bool.not_false, Bool.not_true, tt, tu_l, li_t, m0, m1, m2, m4, t0, t1, t2, t3, n0, c0, al_0, an_0, al_1, al_2, an_2, f0, isi_t, is_str, bt, bs, bss, noE, part_e]
        rw [ssx (by simp; omega), srt_app]
        simp only [pb, asc, thB, thN, thR, thI, bB, ntn, ntf, ittr, itfa, itT, itF, v0, v1, f1e, f2e, dR, dX, q_all_all, q_all_none, q_all_name, q_all_not, q_all_and, q_all_or, q_none_all, q_none_none, q_none_name, q_none_not, q_none_and, q_none_or, q_name_all, q_name_none, q_name_name, q_name_not, q_name_and, q_name_or, q_not_all, q_not_none, q_not_name, q_not_not, q_not_and, q_not_or, q_and_all, q_and_none, q_and_name, q_and_not, q_and_and, q_and_or, q_or_all, q_or_none, q_or_name, q_or_not, q_or_and, q_or_or, i_all_ao, i_all_aa, i_all_an, i_none_ao, i_none_aa, i_none_an, i_name_ao, i_name_aa, i_name_an, i_not_ao, i_not_aa, i_not_an, i_and_ao, i_and_aa, i_and_an, i_or_ao, i_or_aa, i_or_an, k_all, k_none, k_not, k_and, k_or, x1_0, x2_0, x2_1, x3_0, x3_1, x3_2, l1_0, l2_0, l2_1, KX.s1, KX.s2, KX.s3, it_t, it_l, ln1, ln2, ln3, ll0, ll1, ll2, ne11, ne22, ne33, eq22, eq02, List.isEmpty_cons, List.isEmpty_nil, Bool.not_false, Bool.not_true, tt, tu_l, li_t, m0, m1, m2, m4, t0, t1, t2, t3, n0, c0, al_0, an_0, al_1, al_2, an_2, f0, isi_t, is_str, bt, bs, bss, noE, part_e]
        rfl
      · rw [iha]
        simp only [pb, asc, thB, thN, thR, thI, bB, ntn, ntf, ittr, itfa, itT, itF, v0, v1, f1e, f2e, dR, dX, q_all_all, q_all_none, q_all_name, q_all_not, q_all_and, q_all_or, q_none_all, q_none_none, q_none_name, q_none_not, q_none_and, q_none_or, q_name_all, q_name_none, q_name_name, q_name_not, q_name_and, q_name_or, q_not_all, q_not_none, q_not_name, q_not_not, q_not_and, q_not_or, q_and_all, q_and_none, q_and_name, q_and_not, q_and_and, q_and_or, q_or_all, q_or_none, q_or_name, q_or_not, q_or_and, q_or_or, i_all_ao, i_all_aa, i_all_an, i_none_ao, i_none_aa, i_none_an, i_name_ao, i_name_aa, i_name_an, i_not_ao, i_not_aa, i_not_an, i_and_ao, i_and_aa, i_and_an, i_or_ao, i_or_aa, i_or_an, k_all, k_none, k_not, k_and, k_or, x1_0, x2_0, x2_1, x3_0, x3_1, x3_2, l1_0, l2_0, l2_1, KX.s1, KX.s2, KX.s3, it_t, it_l, ln1, ln2, ln3, ll0, ll1, ll2, ne11, ne22, ne33, eq22, eq02, List.isEmpty_cons, List.isEmpty_nil, Bool.not_false, Bool.not_true, tt, tu_l, li_t, m0, m1, m2, m4, t0, t1, t2, t3, n0, c0, al_0, an_0, al_1, al_2, an_2, f0, isi_t, is_str, bt, bs, bss, noE, part_e]
        rw [add_l (by simp; omega)]
        simp only [pb, asc, thB, thN, thR, thI, bB, ntn, ntf, ittr, itfa, itT, itF, v0, v1, f1e, f2e, dR, dX, q_all_all, q_all_none, q_all_name, q_all_not, q_all_and, q_all_or, q_none_all, q_none_none, q_none_name, q_none_not, q_none_and, q_none_or, q_name_all, q_name_none, q_name_name, q_name_not, q_name_and, q_name_or, q_not_all, q_not_none, q_not_name, q_not_not, q_not_and, q_not_or, q_and_all, q_and_none, q_and_name, q_and_not, q_and_and, q_and_or, q_or_all, q_or_none, q_or_name, q_or_not, q_or_and, q_or_or, i_all_ao, i_all_aa, i_all_an, i_none_ao, i_none_aa, i_none_an, i_name_ao, i_name_aa, i_name_an, i_not_ao, i_not_aa, i_not_an, i_and_ao, i_and_aa, i_and_an, i_or_ao, i_or_aa, i_or_an, k_all, k_none, k_not, k_and, k_or, x1_0, x2_0, x2_1, x3_0, x3_1, x3_2, l1_0, l2_0, l2_1, KX.s1, KX.s2, KX.s3, it_t, it_l, ln1, ln2, ln3, ll0, ll1, ll2, ne11, ne22, ne33, eq22, eq02, List.isEmpty_cons, List.isEmpty_nil, Bool.not_false, Bool.not_true, tt, tu_l, li_t, m0, m1, m2, m4, t0, t1, t2, t3, n0, c0, al_0, an_0, al_1, al_2, an_2, f0, isi_t, is_str, bt, bs, bss, noE, part_e]
        rfl
      · rw [ihb]
        simp only [pb, asc, thB, thN, thR, thI, bB, ntn, ntf, ittr, itfa, itT, itF, v0, v1, f1e, f2e, dR, dX, q_all_all, q_all_none, q_all_name, q_all_not, q_all_and, q_all_or, q_none_all, q_none_none, q_none_name, q_none_not, q_none_and, q_none_or, q_name_all, q_name_none, q_name_name, q_name_not, q_name_and, q_name_or, q_not_all, q_not_none, q_not_name, q_not_not, q_not_and, q_not_or, q_and_all, q_and_none, q_and_name, q_and_not, q_and_and, q_and_or, q_or_all, q_or_none, q_or_name, q_or_not, q_or_and, q_or_or, i_all_ao, i_all_aa, i_all_an, i_none_ao, i_none_aa, i_none_an, i_name_ao, i_name_aa, i_name_an, i_not_ao, i_not_aa, i_not_an, i_and_ao, i_and_aa, i_and_an, i_or_ao, i_or_aa, i_or_an, k_all, k_none, k_not, k_and, k_or, x1_0, x2_0, x2_1, x3_0, x3_1, x3_2, l1_0, l2_0, l2_1, KX.s1, KX.s2, KX.s3, it_t, it_l, ln1, ln2, ln3, ll0, ll1, ll2, ne11, ne22, ne33, eq22, eq02, List.isEmpty_cons, List.isEmpty_nil, Bool.not_false, Bool.not_true, tt, tu_l, li_t, m0, m1, m2, m4, t0, t1, t2, t3, n0, c0, al_0, an_0, al_1, al_2, an_2, f0, isi_t, is_str, bt, bs, bss, noE, part_e]
        rw [add_l (by simp; omega)]
        simp only [pb, asc, thB, thN, thR, thI, bB, ntn, ntf, ittr, itfa, itT, itF, v0, v1, f1e, f2e, dR, dX, q_all_all, q_all_none, q_all_name, q_all_not, q_all_and, q_all_or, q_none_all, q_none_none, q_none_name, q_none_not, q_none_and, q_none_or, q_name_all, q_name_none, q_name_name, q_name_not, q_name_and, q_name_or, q_not_all, q_not_none, q_not_name, q_not_not, q_not_and, q_not_or, q_and_all, q_and_none, q_and_name, q_and_not, q_and_and, q_and_or, q_or_all, q_or_none, q_or_name, q_or_not, q_or_and, q_or_or, i_all_ao, i_all_aa, i_all_an, i_none_ao, i_none_aa, i_none_an, i_name_ao, i_name_aa, i_name_an, i_not_ao, i_not_aa, i_not_an, i_and_ao, i_and_aa, i_and_an, i_or_ao, i_or_aa, i_or_an, k_all, k_none, k_not, k_and, k_or, x1_0, x2_0, x2_1, x3_0, x3_1, x3_2, l1_0, l2_0, l2_1, KX.s1, KX.s2, KX.s3, it_t, it_l, ln1, ln2, ln3, ll0, ll1, ll2, ne11, ne22, ne33, eq22, eq02, List.isEmpty_cons, List.isEmpty_nil, Bool.not_false, Bool.not_true, tt, tu_l, li_t, m0, m1, m2, m4, t0, t1, t2, t3, n0, c0, al_0, an_0, al_1, al_2, an_2, f0, isi_t, is_str, bt, bs, bss, noE, part_e]
        rw [List.map_append]
end
end KX
namespace KX
open PySem PySem.Spec PyProof.Rows L2 DL
open PySem.W (dataLe)
noncomputable section
theorem sortok_strs (us : List Str) : SX.SortOk (us.map PyData.str) := by
  refine ⟨PySem.W.AllAlike.of fun b b' => by simp [PySem.W.alike], fun p hp => ?_, .inl (PySem.W.Sortable.others fun b => ⟨(nomatch ·), fun xs => (nomatch ·)⟩), fun p hp => ?_⟩
  · obtain ⟨u, _, rfl⟩ := List.mem_map.mp hp
    exact (nomatch ·)
  · obtain ⟨u, _, rfl⟩ := List.mem_map.mp hp
    exact Nat.zero_le _
theorem pyLe_str (x y : Str) : pyLe (.str x) (.str y) = decide (x.cps.toList ≤ y.cps.toList) := by
  show dataLe false (fun p : PyData => p) (.str x) (.str y) = _
  have := congrFun (congrFun (PySem.W.dataLe_str (β := Str) fun b => b) x) y
  exact this
open Classical in
theorem sort_strs {us : List Str} (nd : us.Nodup) (h : us.length ≤ 9000) : sortD (.lst (us.map .str)) = Pure.pure (.lst ((SX.srtS us).map .str)) := by
  show (match toPys (us.map .str) with | some ps => if SX.SortOk ps ∧ (us.map D.str).length ≤ sizeLine then Pure.pure (D.lst ((us.map D.str).mergeSort pyLe)) else M.no | none => M.no) = _
  rw [toPys_strs]
  show (if SX.SortOk (us.map PyData.str) ∧ (us.map D.str).length ≤ sizeLine then Pure.pure (D.lst ((us.map D.str).mergeSort pyLe)) else M.no) = _
  rw [if_pos ⟨sortok_strs us, by rw [List.length_map, sizeLine_eq]; omega⟩]
  have s1 := List.map_mergeSort (r := fun x y : Str => decide (x.cps.toList ≤ y.cps.toList)) (s := pyLe) (f := D.str) (l := us) (fun a _ b _ => (pyLe_str a b).symm)
  rw [← s1]
  have pw := List.pairwise_mergeSort (le := fun a b : Str => decide (a.cps.toList ≤ b.cps.toList)) (fun a b c h1 h2 => decide_eq_true (List.le_trans (of_decide_eq_true h1) (of_decide_eq_true h2))) (fun a b => by
    rcases List.le_total a.cps.toList b.cps.toList with z | z
    · rw [decide_eq_true z]; rfl
    · rw [decide_eq_true z, Bool.or_true]) us
  have nd2 : (us.mergeSort fun x y : Str => decide (x.cps.toList ≤ y.cps.toList)).Nodup := (List.mergeSort_perm _ _).nodup_iff.mpr nd
  have pl : (us.mergeSort fun x y : Str => decide (x.cps.toList ≤ y.cps.toList)).Pairwise SX.ltT := (pw.and nd2).imp fun {a b} ⟨h1, h2⟩ => by
    have h1 := of_decide_eq_true h1
    by_cases z : a.cps.toList < b.cps.toList
    · exact z
    · exact absurd (PySem.W.str_of_cps (List.le_antisymm h1 z)) h2
  rw [SX.srtS_is pl fun y => List.mem_mergeSort]
def subT : Tr → List Tr
  | .all => [.all] | .non => [.non] | .nam w => [.nam w]
  | .nt t => .nt t :: subT t
  | .bin k a b => .bin k a b :: (subT a ++ subT b)
theorem subs_map : ∀ t : Tr, t.subs = (subT t).map Tr.enc
  | .all => rfl | .non => rfl | .nam w => rfl
  | .nt t => by simp [Tr.subs, subT, subs_map t]
  | .bin k a b => by simp [Tr.subs, subT, subs_map a, subs_map b]
def insL (us : List Str) (w : Str) : List Str := if w ∈ us then us else us ++ [w]
def stp (us : List Str) : Tr → List Str
  | .nam w => insL us w
  | _ => us
theorem stp_names : ∀ (t : Tr) (us : List Str), (subT t).foldl stp us = t.names.foldl insL us
  | .all, _ => rfl | .non, _ => rfl | .nam w, _ => rfl
  | .nt t, us => by
    show (subT t).foldl stp us = _
    exact stp_names t us
  | .bin k a b, us => by
    show (subT a ++ subT b).foldl stp us = _
    rw [List.foldl_append, stp_names a, stp_names b]
    exact (List.foldl_append ..).symm
theorem ins_mem {x : Str} : ∀ (ws us : List Str), x ∈ ws.foldl insL us ↔ x ∈ us ∨ x ∈ ws
  | [], us => by simp
  | w :: ws, us => by
    rw [List.foldl_cons, ins_mem ws]
    unfold insL
    split
    · rename_i h
      constructor
      · rintro (z | z)
        · exact .inl z
        · exact .inr (List.mem_cons_of_mem _ z)
      · rintro (z | z)
        · exact .inl z
        · rcases List.mem_cons.mp z with z | z
          · exact .inl (z ▸ h)
          · exact .inr z
    · rw [List.mem_append, List.mem_singleton, List.mem_cons]
      constructor
      · rintro ((z | z) | z)
        · exact .inl z
        · exact .inr (.inl z)
        · exact .inr (.inr z)
      · rintro (z | z | z)
        · exact .inl (.inl z)
        · exact .inl (.inr z)
        · exact .inr z
theorem ins_nodup : ∀ (ws us : List Str), us.Nodup → (ws.foldl insL us).Nodup
  | [], _, h => h
  | w :: ws, us, h => by
    rw [List.foldl_cons]
    refine ins_nodup ws _ ?_
    unfold insL
    split
    · exact h
    · rename_i n
      exact List.nodup_append.mpr ⟨h, by simp, fun a ha b hb => by
        rw [List.mem_singleton] at hb
        subst hb
        exact fun e => n (e ▸ ha)⟩
theorem ins_len : ∀ (ws us : List Str), (ws.foldl insL us).length ≤ us.length + ws.length
  | [], us => Nat.le_refl _
  | w :: ws, us => by
    rw [List.foldl_cons]
    have := ins_len ws (insL us w)
    have l : (insL us w).length ≤ us.length + 1 := by unfold insL; split <;> simp
    simp only [List.length_cons]
    omega
def kvT (us : List Str) : List (Key × D) := us.map fun u => (.inr u, .bl true)
theorem put_kv (us : List Str) (w : Str) : putD (kvT us) (.inr w) (.bl true) = kvT (insL us w) := by
  have an : ((kvT us).any fun kv => decide (kv.1 = .inr w)) = decide (w ∈ us) := by
    unfold kvT
    rw [List.any_map]
    induction us with
    | nil => rfl
    | cons u us ih =>
      rw [List.any_cons, ih]
      by_cases z : u = w
      · subst z; simp
      · have z2 : ¬ w = u := fun e => z e.symm
        simp [z, z2]
  unfold putD insL
  rw [an]
  by_cases h : w ∈ us
  · rw [if_pos (decide_eq_true h), if_pos h]
    unfold kvT
    rw [List.map_map]
    refine List.map_congr_left fun u _ => ?_
    show (if (Sum.inr u : Key) = .inr w then ((Sum.inr u : Key), D.bl true) else (Sum.inr u, D.bl true)) = _
    split <;> rfl
  · rw [if_neg (by rw [decide_eq_false h]; exact Bool.false_ne_true), if_neg h]
    unfold kvT
    rw [List.map_append]
    rfl
theorem dc_e {mt : D → M Bool} {mk mv : D → M D} (ht : ∀ t : Tr, mt t.enc = Pure.pure (match t with | .nam _ => true | _ => false)) (hk : ∀ w, mk (Tr.nam w).enc = Pure.pure (.str w)) (hv : ∀ d, mv d = Pure.pure (.bl true)) :
    ∀ (L : List Tr) (us : List Str), us.length + L.length ≤ 9000 → dcF mt mk mv (L.map Tr.enc) (kvT us) = Pure.pure (kvT (L.foldl stp us))
  | [], us, _ => Eq.trans rfl rfl
  | t :: L, us, h => by
    rw [List.map_cons, List.foldl_cons]
    unfold dcF
    rw [ht, noE, pb]
    simp only [List.length_cons] at h
    cases t with
    | nam w =>
      rw [ittr, hk, noE, pb, hv, noE, pb]
      have e : keyM (.str w) = Pure.pure (.inr w) := Eq.trans rfl rfl
      have l : (kvT us).length < sizeLine := by unfold kvT; rw [List.length_map, sizeLine_eq]; omega
      rw [e, pb, if_pos l, put_kv]
      have l2 : (insL us w).length ≤ us.length + 1 := by unfold insL; split <;> simp
      exact dc_e ht hk hv L (insL us w) (by omega)
    | all => rw [itfa]; exact dc_e ht hk hv L us (by omega)
    | non => rw [itfa]; exact dc_e ht hk hv L us (by omega)
    | nt t => rw [itfa]; exact dc_e ht hk hv L us (by omega)
    | bin k a b => rw [itfa]; exact dc_e ht hk hv L us (by omega)
theorem list_kv (us : List Str) : listE (dicD (kvT us)) = Pure.pure (.lst (us.map .str)) := by
  have e : dicD (kvT us) = .dic (us.map fun u => (.str u, .bl true)) := by
    unfold dicD kvT
    rw [List.map_map]
    rfl
  rw [e]
  show (if ((us.map fun u => (D.str u, D.bl true)).all fun p => isKey p.1) = true then Pure.pure (D.lst ((us.map fun u => (D.str u, D.bl true)).map (·.1))) else M.no) = _
  rw [if_pos (by rw [List.all_map, List.all_eq_true]; intro x _; rfl), List.map_map]
  rfl
def nms (t : Tr) : List Str := SX.srtS t.names
theorem nms_is (t : Tr) : SX.srtS (t.names.foldl insL []) = nms t := by
  have h : SX.srtS (t.names.foldl insL []) = SX.srtS t.names := SX.srtS_is SX.srtS_asc fun y => by
    rw [SX.srtS_mem, ins_mem]
    simp
  exact h
theorem asc_nodup {l : List Str} (h : l.Pairwise SX.ltT) : l.Nodup := h.imp fun {a b} h => fun e => SX.ltT_irrefl b (by rw [e] at h; exact h)
theorem sub_len : ∀ {l m : List Str}, l.Nodup → (∀ x ∈ l, x ∈ m) → l.length ≤ m.length
  | [], _, _, _ => Nat.zero_le _
  | a :: l, m, nd, h => by
    obtain ⟨n1, n2⟩ := List.nodup_cons.mp nd
    have ha := h a List.mem_cons_self
    have := sub_len (l := l) (m := m.erase a) n2 fun x hx => (List.mem_erase_of_ne (fun e => n1 (by rw [← e]; exact hx))).mpr (h x (List.mem_cons_of_mem _ hx))
    rw [List.length_erase_of_mem ha] at this
    have : 0 < m.length := List.length_pos_of_mem ha
    simp only [List.length_cons]
    omega
def FS (t : Tr) : List (Str × D) := putA "_names" (.tup ((nms t).map .str)) (putA "_tuples" (.tup t.subs) (putA "_tree" t.enc []))
end
end KX
namespace KX
open PySem PySem.Spec PyProof.Rows L2 DL
noncomputable section
def TX : List Str := ["", "name", "all", "none", "and", "or", "not", "A", "ninechars", "x", "u", "q", "r", "s", "t", "a", "odd", "ends", "zzzzzzzz", "nota"]
mutual
def uni : D → Bool
  | .non => true
  | .int i => decide (i = 0)
  | .bl _ => true
  | .str s => decide (s ∈ TX)
  | .dic l => l.isEmpty
  | .tup xs => unis xs
  | .lst xs => unis xs
  | _ => false
def unis : List D → Bool
  | [] => true
  | x :: xs => uni x && unis xs
end
mutual
def siz : D → Nat
  | .tup xs => sizl xs + 1
  | .lst xs => sizl xs + 1
  | _ => 1
def sizl : List D → Nat
  | [] => 0
  | x :: xs => siz x + sizl xs
end
theorem siz_pos (v : D) : 1 ≤ siz v := by cases v <;> simp [siz]
theorem len_siz : ∀ xs : List D, xs.length ≤ sizl xs
  | [] => Nat.zero_le _
  | x :: xs => by
    have := siz_pos x
    have := len_siz xs
    simp only [List.length_cons, sizl]
    omega
theorem uni_mem : ∀ {xs : List D}, unis xs = true → ∀ x ∈ xs, uni x = true
  | [], _, _, h => nomatch h
  | x :: xs, h, y, hy => by
    simp only [unis, Bool.and_eq_true] at h
    rcases List.mem_cons.mp hy with e | e
    · subst e; exact h.1
    · exact uni_mem h.2 y e
theorem siz_mem : ∀ {xs : List D}, ∀ x ∈ xs, siz x ≤ sizl xs
  | [], _, h => nomatch h
  | x :: xs, y, hy => by
    simp only [sizl]
    rcases List.mem_cons.mp hy with e | e
    · subst e; omega
    · have := siz_mem y e; omega
theorem tx_ok : ∀ s ∈ TX, okS s = true ∧ s.cps.size ≤ 9 := by decide +kernel
theorem tx_name : ∀ s ∈ TX, (nameB (cl s) && !(["all", "and", "none", "not", "or"] : List Str).any (· == s)) = decide (s ∈ five) := by decide +kernel
def parts (s : Str) : Nat := if s = "all" ∨ s = "none" then 1 else if s = "not" then 2 else if s = "and" ∨ s = "or" then 3 else 0
def TAB : List (Str × Option Int) := [("all", some 1), ("none", some 1), ("not", some 2), ("and", some 3), ("or", some 3), ("", none), ("name", none), ("A", none), ("ninechars", none), ("x", none), ("u", none), ("q", none), ("r", none), ("s", none), ("t", none), ("a", none), ("odd", none), ("ends", none), ("zzzzzzzz", none), ("nota", none)]
theorem tx_tab : ∀ s ∈ TX, (match TAB.lookup s with | some (some i) => decide (i = (parts s : Nat)) | some none => decide (parts s = 0) | none => false) = true := by decide +kernel
theorem tx_kget {s : Str} (h : s ∈ TX) : kgetD TAB (.str s) (.int 0) = Pure.pure (.int (parts s : Nat)) := by
  have := tx_tab s h
  show (match TAB.lookup s with | some (some i) => Pure.pure (D.int i) | some none => Pure.pure (D.int 0) | none => M.no) = _
  cases e : TAB.lookup s with
  | none => rw [e] at this; cases this
  | some o =>
    rw [e] at this
    cases o with
    | none => have := of_decide_eq_true this; rw [this]; rfl
    | some i => have := of_decide_eq_true this; rw [this]
theorem eqx_int (i j : Int) : eqX (.int i) (.int j) = Pure.pure (.bl (i == j)) := eq_int i j
theorem eqx_str {x y : Str} (hx : okS x = true) (hy : okS y = true) : eqX (.str x) (.str y) = Pure.pure (.bl (x == y)) := eq_str (lay_ok hx) (lay_ok hy)
theorem ok_name : okS "name" = true := by decide +kernel
def okN : D → Bool
  | .str s => decide (s ∈ five)
  | _ => false
def nameT : List D → Bool
  | [y] => okN y
  | _ => false
def treeB : Nat → D → Bool
  | 0, _ => false
  | d + 1, v => match v with
    | .tup (.str w :: r) => if w = "name" then nameT r else decide (r.length + 1 = parts w) && r.all (treeB d)
    | _ => false
theorem treeB_s (d : Nat) (s : Str) (xs : List D) : treeB (d + 1) (.tup (.str s :: xs)) = if s = "name" then nameT xs else decide (xs.length + 1 = parts s) && xs.all (treeB d) := rfl
theorem treeB_0 (v : D) : treeB 0 v = false := rfl
/-- no tuple -/
theorem no_tup {v : D} (h : uni v = true) : (∃ xs, v = .tup xs) ∨ (isiD "tuple" v = Pure.pure (.bl false) ∧ ∀ d, treeB d v = false) := by
  have z : ∀ {v : D} {n : String}, tyN v = some n → isB n "tuple" = false → isiD "tuple" v = Pure.pure (.bl false) := fun h1 h2 => by rw [isi_is "tuple" h1, h2]
  cases v with
  | tup xs => exact .inl ⟨xs, rfl⟩
  | non => exact .inr ⟨z (n := "NoneType") rfl (by decide), fun d => by cases d <;> rfl⟩
  | int i => exact .inr ⟨z (n := "int") rfl (by decide), fun d => by cases d <;> rfl⟩
  | bl i => exact .inr ⟨z (n := "bool") rfl (by decide), fun d => by cases d <;> rfl⟩
  | str i => exact .inr ⟨z (n := "str") rfl (by decide), fun d => by cases d <;> rfl⟩
  | dic i => exact .inr ⟨z (n := "dict") rfl (by decide), fun d => by cases d <;> rfl⟩
  | lst i => exact .inr ⟨z (n := "list") rfl (by decide), fun d => by cases d <;> rfl⟩
  | _ => simp [uni] at h
/-- no text -/
structure NoS (v : D) : Prop where
  is : isiD "str" v = Pure.pure (.bl false)
  eq : eqX v (.str "name") = Pure.pure (.bl false)
  tr : ∀ d xs, treeB d (.tup (v :: xs)) = false
  ok : okN v = false
theorem no_str {v : D} (h : uni v = true) : (∃ s, v = .str s ∧ s ∈ TX) ∨ NoS v := by
  have z : ∀ {v : D} {n : String}, tyN v = some n → isB n "str" = false → isiD "str" v = Pure.pure (.bl false) := fun h1 h2 => by rw [isi_is "str" h1, h2]
  have eqo : ∀ {v : D} {p : PyData}, toPy v = some p → SeqAt.shaped p = true → PyData.eqv p (.str "name") = false → eqD v (.str "name") = Pure.pure (.bl false) := fun {v p} h1 h2 h3 => by
    unfold eqD
    rw [h1]
    show (if SeqAt.shaped p = true ∧ SeqAt.shaped (.str "name") = true then Pure.pure (D.bl (PyData.eqv p (.str "name"))) else M.no) = _
    rw [if_pos ⟨h2, shaped_str (lay_ok ok_name)⟩, h3]
  cases v with
  | str s => exact .inl ⟨s, rfl, by simpa [uni] using h⟩
  | tup xs => exact .inr ⟨z (n := "tuple") rfl (by decide), rfl, fun d xs => by cases d <;> rfl, rfl⟩
  | lst xs => exact .inr ⟨z (n := "list") rfl (by decide), rfl, fun d xs => by cases d <;> rfl, rfl⟩
  | dic xs => exact .inr ⟨z (n := "dict") rfl (by decide), rfl, fun d xs => by cases d <;> rfl, rfl⟩
  | non => exact .inr ⟨z (n := "NoneType") rfl (by decide), eqo (v := .non) (p := .none) rfl rfl rfl, fun d xs => by cases d <;> rfl, rfl⟩
  | int i => exact .inr ⟨z (n := "int") rfl (by decide), eqo (v := .int i) (p := .int i) rfl rfl rfl, fun d xs => by cases d <;> rfl, rfl⟩
  | bl b => exact .inr ⟨z (n := "bool") rfl (by decide), eqo (v := .bl b) (p := .bool b) rfl rfl rfl, fun d xs => by cases d <;> rfl, rfl⟩
  | _ => simp [uni] at h
theorem ix0 (x : D) (xs : List D) : ixD (.tup (x :: xs)) (.int 0) = Pure.pure x := by
  have e : atI (x :: xs) 0 = some x := by
    unfold atI ixN
    rw [if_pos (by omega), if_pos (by rw [List.length_cons]; omega)]
    rfl
  show M.some (atI (x :: xs) 0) = _
  rw [e]; exact Eq.trans rfl rfl
theorem ix1 (x y : D) (xs : List D) : ixD (.tup (x :: y :: xs)) (.int 1) = Pure.pure y := by
  have e : atI (x :: y :: xs) 1 = some y := by
    unfold atI ixN
    rw [if_pos (by omega), if_pos (by rw [List.length_cons, List.length_cons]; omega)]
    rfl
  show M.some (atI (x :: y :: xs) 1) = _
  rw [e]; exact Eq.trans rfl rfl
theorem rest1 (x : D) (xs : List D) : sliceD (.tup (x :: xs)) (some 1) none = Pure.pure (.tup xs) := by
  have e : cutL (x :: xs) (some 1) none = xs := by
    have e1 : HT.sIx (x :: xs).length 0 (some ((1 : Nat) : Int)) = 1 := by rw [HT.sIx_nat]; simp
    have e2 : HT.sIx (x :: xs).length (x :: xs).length none = (x :: xs).length := rfl
    have e1' : HT.sIx (x :: xs).length 0 (some 1) = 1 := e1
    unfold cutL
    rw [e1', e2]
    simp
  show (Pure.pure (D.tup (cutL (x :: xs) (some 1) none)) : M D) = _
  rw [e]
theorem bls_d (f : D → Bool) : ∀ l : List D, bls (l.map fun a => .bl (f a)) = some (l.map f)
  | [] => rfl
  | a :: l => by
    show (bls _).map _ = _
    rw [bls_d f l]
    rfl
theorem all_d (f : D → Bool) (l : List D) : allD (.lst (l.map fun a => .bl (f a))) = Pure.pure (.bl (l.all f)) := by
  show M.some ((bls _).map _) = _
  rw [bls_d, Option.map_some, sB, List.all_map]
  rfl
theorem ne_ii (i j : Int) : neD (.int i) (.int j) = Pure.pure (.bl (!(i == j))) := by
  show (if SeqAt.shaped (.int i) = true ∧ SeqAt.shaped (.int j) = true then Pure.pure (D.bl (!PyData.eqv (.int i) (.int j))) else M.no) = _
  rw [if_pos ⟨rfl, rfl⟩]
  rfl
theorem fname_x {v : D} (h : uni v = true) : g_is_formula_name [.v v] = Pure.pure (.bl (okN v)) := by
  show m_is_formula_name v = _
  unfold m_is_formula_name
  rcases no_str h with ⟨s, rfl, hs⟩ | n
  · obtain ⟨h1, h2⟩ := tx_ok s hs
    have h3 := tx_name s hs
    have e : inD true (.str s) (.tup [.str "all", .str "and", .str "none", .str "not", .str "or"]) = Pure.pure (.bl (!(["all", "and", "none", "not", "or"] : List Str).any (· == s))) := inseq true (ys := ["all", "and", "none", "not", "or"]) h1 (by decide +kernel)
    simp only [pb, asc, name_e (show s.cps.size ≤ sizeLine by rw [sizeLine_eq]; omega), bB]
    show _ = Pure.pure (D.bl (decide (s ∈ five)))
    rw [← h3]
    cases nameB (cl s)
    · simp only [itfa, itF, pb, dR, Bool.false_and]
    · simp only [ittr, itT, e, pb, dR, Bool.true_and]
  · have e : g_is_name [.v v] = Pure.pure (.bl false) := by
      show m_is_name v = _
      unfold m_is_name
      simp only [pb, asc, n.is, bB, itfa, itF, dR]
    rw [n.ok]
    simp only [pb, asc, e, bB, itfa, itF, dR]
theorem is_tree_e : ∀ (d n : Nat) (v : D), uni v = true → siz v ≤ 9000 → d < n → g_is_tree n [.v v, .v (.int ((d : Nat) : Int))] = Pure.pure (.bl (treeB d v))
  | _, 0, _, _, _, h => absurd h (Nat.not_lt_zero _)
  | 0, n + 1, v, _, _, _ => by
    show m_is_tree (g_is_tree n) v (.int ((0 : Nat) : Int)) = _
    unfold m_is_tree
    have e : eqX (.int ((0 : Nat) : Int)) (.int 0) = Pure.pure (.bl true) := eqx_int 0 0
    simp only [pb, asc, thB, e, bB, ittr, itT, thR, dR, treeB_0]
  | d + 1, n + 1, v, hu, hz, hn => by
    show m_is_tree (g_is_tree n) v (.int ((d + 1 : Nat) : Int)) = _
    unfold m_is_tree
    have e0 : eqX (.int ((d + 1 : Nat) : Int)) (.int 0) = Pure.pure (.bl false) := by
      have z : (((d + 1 : Nat) : Int) == 0) = false := by simp; omega
      rw [eqx_int, z]
    have es : subD (.int ((d + 1 : Nat) : Int)) (.int 1) = Pure.pure (.int ((d : Nat) : Int)) := by rw [sub_ii]; congr 2; omega
    rcases no_tup hu with ⟨xs, rfl⟩ | ⟨e1, e2⟩
    · have it : isiD "tuple" (.tup xs) = Pure.pure (.bl true) := isi_is "tuple" (n := "tuple") rfl
      simp only [siz] at hz
      cases xs with
      | nil =>
        simp only [pb, asc, thB, e0, bB, itfa, itF, it, ntn, ntf, tt, List.isEmpty_nil, ittr, itT, thR, dR]
        rfl
      | cons x xs =>
        have hx : uni x = true ∧ unis xs = true := by simpa [uni, unis] using hu
        have ls := len_siz xs
        simp only [sizl] at hz
        simp only [pb, asc, thB, thN, e0, bB, itfa, itF, it, ntn, ntf, tt, List.isEmpty_cons, ittr, itT, ix0, es]
        rcases no_str hx.1 with ⟨s, rfl, hs⟩ | n1
        · obtain ⟨o1, o2⟩ := tx_ok s hs
          have en : eqX (.str s) (.str (Str.ofString "name")) = Pure.pure (.bl (s == "name")) := eqx_str o1 ok_name
          have isS : isiD "str" (.str s) = Pure.pure (.bl true) := is_str s "str"
          simp only [en, pb, bB, asc]
          by_cases hs1 : s = "name"
          · subst hs1
            simp only [beq_self_eq_true, ittr, itT, thR, v0, v1, f1e, le_t, eqx_int, pb, asc, bB, dR]
            rw [treeB_s, if_pos rfl]
            match xs, hx.2 with
            | [], _ => 
              have e : ((([D.str (Str.ofString "name")] : List D).length : Int) == 2) = false := rfl
              simp only [e, itfa, itF, pb, dR, thR]
              rfl
            | [y], h2 =>
              have e : ((([D.str (Str.ofString "name"), y] : List D).length : Int) == 2) = true := rfl
              have hy : uni y = true := by simpa [unis] using h2
              simp only [e, ittr, itT, ix1, pb, fname_x hy, dR, thR]
              rfl
            | y :: z :: r, _ =>
              have e : (((D.str (Str.ofString "name") :: y :: z :: r : List D).length : Int) == 2) = false := by simp; omega
              simp only [e, itfa, itF, pb, dR, thR]
              rfl
          · have hb : (s == "name") = false := beq_eq_false_iff_ne.mpr hs1
            have kg := tx_kget hs
            unfold TAB at kg
            simp only [hb, itfa, itF, thN, isS, pb, bB, ntn, v0, v1, f1e, le_t, kg, ne_ii, asc]
            rw [treeB_s, if_neg hs1]
            by_cases hp : xs.length + 1 = parts s
            · have eb : (((D.str s :: xs : List D).length : Int) == ((parts s : Nat) : Int)) = true := by simp; omega
              have cp : compF (fun _ => Pure.pure true) (fun part => g_is_tree n [.v part, .v (.int ((d : Nat) : Int))]) xs = Pure.pure (xs.map fun p => .bl (treeB d p)) := by
                exact comp_all (fun p => .bl (treeB d p)) xs fun p hp => is_tree_e d n p (uni_mem hx.2 p hp) (by have := siz_mem p hp; omega) (by omega)
              simp only [eb, Bool.not_true, itfa, itF, thN, rest1, it_t, pb, part_e, cp, noE, mkLe (show (xs.map fun p => D.bl (treeB d p)).length ≤ sizeLine by rw [List.length_map, sizeLine_eq]; omega), v0, v1, f1e, asc, all_d, dR, thR, decide_eq_true hp, Bool.true_and]
            · have eb : (((D.str s :: xs : List D).length : Int) == ((parts s : Nat) : Int)) = false := by simp; omega
              simp only [eb, Bool.not_false, ittr, itT, pb, thR, dR, decide_eq_false hp, Bool.false_and]
        · have en : eqX x (.str (Str.ofString "name")) = Pure.pure (.bl false) := n1.eq
          simp only [en, pb, bB, itfa, itF, thN, n1.is, ntf, ittr, itT, thR, dR, n1.tr, asc]
    · simp only [pb, asc, thB, e0, bB, itfa, itF, e1, ntf, ittr, itT, thR, dR, e2]
end
end KX
namespace KX
open PySem PySem.Spec PyProof.Rows L2 DL
noncomputable section
def ALPH : Str := "abcdefghijklmnopqrstuvwxyz"
theorem tx_word : ∀ s ∈ TX, (!((cl s).length == 0) && (!decide (8 < (cl s).length) && (!(["all", "and", "none", "not", "or"] : List Str).any (· == s) && (cl s).all fun c => decide (c ∈ cl ALPH)))) = decide (s ∈ five) := by decide +kernel
theorem chr_in (c : Nat) : inD true (.str ⟨#[c]⟩) (.str ALPH) = Pure.pure (.bl (!decide (c ∈ cl ALPH))) := Eq.trans rfl rfl
theorem eqx_nil (xs : List D) : eqX (.lst xs) (.lst []) = Pure.pure (.bl xs.isEmpty) := rfl
theorem eqx_nilT (xs : List D) : eqX (.tup xs) (.tup []) = Pure.pure (.bl xs.isEmpty) := rfl
theorem filt_all {α : Type} (p : α → Bool) : ∀ l : List α, (l.filter fun a => !p a).isEmpty = l.all p
  | [] => rfl
  | a :: l => by
    rw [List.filter_cons, List.all_cons, ← filt_all p l]
    cases p a <;> rfl
theorem mt5 (a b c d e : D) : mkT [a, b, c, d, e] = Pure.pure (.tup [a, b, c, d, e]) := mkTe (line9 (by simp))
theorem word_e {v : D} (h : uni v = true) : g_l_is_word [.v v] = Pure.pure (.bl (okN v)) := by
  show m_l_is_word v = _
  unfold m_l_is_word
  rcases no_str h with ⟨s, rfl, hs⟩ | n
  · obtain ⟨h1, h2⟩ := tx_ok s hs
    have h3 := tx_word s hs
    have hl : s.cps.size ≤ sizeLine := by rw [sizeLine_eq]; omega
    have isS : isiD "str" (.str s) = Pure.pure (.bl true) := is_str s "str"
    have e : inD false (.str s) (.tup [.str "all", .str "and", .str "none", .str "not", .str "or"]) = Pure.pure (.bl ((["all", "and", "none", "not", "or"] : List Str).any (· == s))) := inseq false (ys := ["all", "and", "none", "not", "or"]) h1 (by decide +kernel)
    have cp : compF (fun x => inD true x (.str ALPH) >>= boolD) (fun x => Pure.pure x) (chrs s) = Pure.pure ((chrs s).filter fun d => !(match d with | .str x => decide (x.cps[0]! ∈ cl ALPH) | _ => false)) := by
      have := comp_pure (t := fun x => inD true x (.str ALPH) >>= boolD) (e := fun x => Pure.pure x) (fun d => !(match d with | .str x => decide (x.cps[0]! ∈ cl ALPH) | _ => false)) (fun d => d) (chrs s) (fun d hd => by
        obtain ⟨c, _, rfl⟩ := List.mem_map.mp hd
        rw [chr_in, pb, bB]
        rfl) fun _ _ _ => rfl
      rw [this, List.map_id']
    have em : ((chrs s).filter fun d => !(match d with | .str x => decide (x.cps[0]! ∈ cl ALPH) | _ => false)).isEmpty = (cl s).all fun c => decide (c ∈ cl ALPH) := by
      rw [filt_all (p := fun d : D => match d with | .str x => decide (x.cps[0]! ∈ cl ALPH) | _ => false)]
      unfold chrs
      rw [List.all_map]
      rfl
    have ln : (((chrs s).filter fun d => !(match d with | .str x => decide (x.cps[0]! ∈ cl ALPH) | _ => false)).length) ≤ sizeLine := by
      refine Nat.le_trans (List.length_filter_le _ _) ?_
      rw [chrs_len]; exact hl
    have e0 : (((cl s).length : Int) == 0) = ((cl s).length == 0) := by
      rw [Bool.eq_iff_iff]; simp
    have e8 : decide ((8 : Int) < ((cl s).length : Int)) = decide (8 < (cl s).length) := by
      rw [Bool.eq_iff_iff]; simp; omega
    show _ = Pure.pure (D.bl (decide (s ∈ five)))
    rw [← h3]
    unfold ALPH at cp em ln ⊢
    simp only [pb, asc, thB, thN, isS, bB, ntn, itfa, itF, v0, v1, f1e, len_e hl, eqx_int, e0, gt_int, e8, mt5, e]
    cases (cl s).length == 0
    · simp only [itfa, itF, pb, Bool.not_false, Bool.true_and]
      cases decide (8 < (cl s).length)
      · simp only [itfa, itF, pb, Bool.not_false, Bool.true_and]
        cases (["all", "and", "none", "not", "or"] : List Str).any (· == s)
        · simp only [itfa, itF, pb, thN, Bool.not_false, Bool.true_and, iter_str, cp, noE, mkLe ln, m0, eqx_nil, em, dR, asc]
        · simp only [ittr, itT, pb, thR, dR, Bool.not_true, Bool.false_and]
      · simp only [ittr, itT, pb, thR, dR, Bool.not_true, Bool.false_and]
    · simp only [ittr, itT, pb, thR, dR, Bool.not_true, Bool.false_and]
  · rw [n.ok]
    simp only [pb, asc, thB, n.is, bB, ntf, ittr, itT, thR, dR]
def DT : D := .dic [(.str "all", .int 1), (.str "none", .int 1), (.str "not", .int 2), (.str "and", .int 3), (.str "or", .int 3)]
theorem dict_e : dictL (.lst [.tup [.str "all", .int 1], .tup [.str "none", .int 1], .tup [.str "not", .int 2], .tup [.str "and", .int 3], .tup [.str "or", .int 3]]) = Pure.pure DT := by
  have nd : (([(.inr "all", .int 1), (.inr "none", .int 1), (.inr "not", .int 2), (.inr "and", .int 3), (.inr "or", .int 3)] : List (Key × D)).map (·.1)).Nodup := by decide +kernel
  show (if (([(.inr "all", .int 1), (.inr "none", .int 1), (.inr "not", .int 2), (.inr "and", .int 3), (.inr "or", .int 3)] : List (Key × D)).map (·.1)).Nodup then Pure.pure DT else M.no) = _
  exact if_pos nd
theorem dicg : dicG DT = true := rfl
theorem tx_get : ∀ s ∈ TX, (match (getD [(.str "all", .int 1), (.str "none", .int 1), (.str "not", .int 2), (.str "and", .int 3), (.str "or", .int 3)] (.inr s)).getD (.int 0) with | .int i => decide (i = (parts s : Nat)) | _ => false) = true := by decide +kernel
theorem dget_e {s : Str} (h : s ∈ TX) : dgetD DT (.str s) (.int 0) = Pure.pure (.int (parts s : Nat)) := by
  have := tx_get s h
  show (Pure.pure ((getD [(.str "all", .int 1), (.str "none", .int 1), (.str "not", .int 2), (.str "and", .int 3), (.str "or", .int 3)] (.inr s)).getD (.int 0)) : M D) = _
  revert this
  generalize (getD [(.str "all", .int 1), (.str "none", .int 1), (.str "not", .int 2), (.str "and", .int 3), (.str "or", .int 3)] (.inr s)).getD (.int 0) = x
  intro this
  cases x with
  | int i => have := of_decide_eq_true this; rw [this]
  | _ => cases this
theorem any_tree_e : ∀ (d n : Nat) (v : D), uni v = true → siz v ≤ 9000 → d < n → g_l_is_any_tree n [.v v, .v (.int ((d : Nat) : Int))] = Pure.pure (.bl (treeB d v))
  | _, 0, _, _, _, h => absurd h (Nat.not_lt_zero _)
  | 0, n + 1, v, _, _, _ => by
    show m_l_is_any_tree (g_l_is_any_tree n) v (.int ((0 : Nat) : Int)) = _
    unfold m_l_is_any_tree
    have e : eqX (.int ((0 : Nat) : Int)) (.int 0) = Pure.pure (.bl true) := eqx_int 0 0
    simp only [pb, asc, thB, e, bB, ittr, itT, thR, dR, treeB_0]
  | d + 1, n + 1, v, hu, hz, hn => by
    show m_l_is_any_tree (g_l_is_any_tree n) v (.int ((d + 1 : Nat) : Int)) = _
    unfold m_l_is_any_tree
    have e0 : eqX (.int ((d + 1 : Nat) : Int)) (.int 0) = Pure.pure (.bl false) := by
      have z : (((d + 1 : Nat) : Int) == 0) = false := by simp; omega
      rw [eqx_int, z]
    have es : subD (.int ((d + 1 : Nat) : Int)) (.int 1) = Pure.pure (.int ((d : Nat) : Int)) := by rw [sub_ii]; congr 2; omega
    rcases no_tup hu with ⟨xs, rfl⟩ | ⟨e1, e2⟩
    · have it : isiD "tuple" (.tup xs) = Pure.pure (.bl true) := isi_is "tuple" (n := "tuple") rfl
      simp only [siz] at hz
      cases xs with
      | nil =>
        simp only [pb, asc, thB, e0, bB, itfa, itF, it, ntn, v0, t0, eqx_nilT, List.isEmpty_nil, ittr, itT, thR, dR]
        rfl
      | cons x xs =>
        have hx : uni x = true ∧ unis xs = true := by simpa [uni, unis] using hu
        have ls := len_siz xs
        simp only [sizl] at hz
        simp only [pb, asc, thB, thN, e0, bB, itfa, itF, it, ntn, ntf, v0, t0, eqx_nilT, List.isEmpty_cons, ix0, es]
        rcases no_str hx.1 with ⟨s, rfl, hs⟩ | n1
        · obtain ⟨o1, o2⟩ := tx_ok s hs
          have en : eqX (.str s) (.str (Str.ofString "name")) = Pure.pure (.bl (s == "name")) := eqx_str o1 ok_name
          have isS : isiD "str" (.str s) = Pure.pure (.bl true) := is_str s "str"
          simp only [isS, en, pb, bB, asc, ntn, itfa, itF, thN]
          by_cases hs1 : s = "name"
          · subst hs1
            simp only [beq_self_eq_true, ittr, itT, thR, v0, v1, f1e, le_t, eqx_int, pb, asc, bB, dR]
            rw [treeB_s, if_pos rfl]
            match xs, hx.2 with
            | [], _ => 
              have e : ((([D.str (Str.ofString "name")] : List D).length : Int) == 2) = false := rfl
              simp only [e, itfa, itF, pb, dR, thR]
              rfl
            | [y], h2 =>
              have e : ((([D.str (Str.ofString "name"), y] : List D).length : Int) == 2) = true := rfl
              have hy : uni y = true := by simpa [unis] using h2
              simp only [e, ittr, itT, ix1, pb, word_e hy, dR, thR]
              rfl
            | y :: z :: r, _ =>
              have e : (((D.str (Str.ofString "name") :: y :: z :: r : List D).length : Int) == 2) = false := by simp; omega
              simp only [e, itfa, itF, pb, dR, thR]
              rfl
          · have hb : (s == "name") = false := beq_eq_false_iff_ne.mpr hs1
            have m5 : ∀ a b c d e : D, mkL [a, b, c, d, e] = Pure.pure (.lst [a, b, c, d, e]) := fun a b c d e => mkLe (line9 (by simp))
            have de := dict_e
            have ge := dget_e hs
            have dg : ∀ {α : Type} (m k : M α), (if dicG DT = true then m else k) = m := fun m k => if_pos dicg
            simp only [hb, itfa, itF, thN, pb, bB, v0, v1, f1e, asc, t2, m5, de, dg, ge, le_t, eqx_int]
            rw [treeB_s, if_neg hs1]
            by_cases hp : xs.length + 1 = parts s
            · have eb : (((D.str s :: xs : List D).length : Int) == ((parts s : Nat) : Int)) = true := by simp; omega
              have cp : compF (fun part => g_l_is_any_tree n [.v part, .v (.int ((d : Nat) : Int))] >>= fun x => boolD x >>= fun b => Pure.pure (!b)) (fun part => Pure.pure part) xs = Pure.pure (xs.filter fun p => !treeB d p) := by
                have := comp_pure (t := fun part => g_l_is_any_tree n [.v part, .v (.int ((d : Nat) : Int))] >>= fun x => boolD x >>= fun b => Pure.pure (!b)) (e := fun part => Pure.pure part) (fun p => !treeB d p) (fun p => p) xs (fun p hp => by
                  rw [any_tree_e d n p (uni_mem hx.2 p hp) (by have := siz_mem p hp; omega) (by omega), pb, bB, pb]) fun _ _ _ => rfl
                rw [this, List.map_id']
              simp only [eb, ittr, itT, thN, rest1, it_t, pb, part_e, cp, noE, mkLe (show (xs.filter fun p => !treeB d p).length ≤ sizeLine from Nat.le_trans (List.length_filter_le _ _) (by rw [sizeLine_eq]; omega)), m0, eqx_nil, filt_all, v0, v1, f1e, asc, dR, thR, decide_eq_true hp, Bool.true_and]
            · have eb : (((D.str s :: xs : List D).length : Int) == ((parts s : Nat) : Int)) = false := by simp; omega
              simp only [eb, itfa, itF, pb, thR, dR, decide_eq_false hp, Bool.false_and]
        · have en : eqX x (.str (Str.ofString "name")) = Pure.pure (.bl false) := n1.eq
          simp only [pb, bB, thN, n1.is, ntf, ittr, itT, thR, dR, n1.tr, asc]
    · simp only [pb, asc, thB, e0, bB, itfa, itF, e1, ntf, ittr, itT, thR, dR, e2]
/-- what is true by the rules is a tree -/
theorem parts_cases {s : Str} {k : Nat} (h : k + 1 = parts s) : (k = 0 ∧ (s = "all" ∨ s = "none")) ∨ (k = 1 ∧ s = "not") ∨ (k = 2 ∧ (s = "and" ∨ s = "or")) := by
  unfold parts at h
  split at h
  · exact .inl ⟨by omega, by assumption⟩
  · split at h
    · exact .inr (.inl ⟨by omega, by assumption⟩)
    · split at h
      · exact .inr (.inr ⟨by omega, by assumption⟩)
      · omega
theorem okN_of {v : D} (h : okN v = true) : ∃ n, v = .str n ∧ n ∈ five := by
  cases v with
  | str n => exact ⟨n, rfl, of_decide_eq_true h⟩
  | _ => cases h
theorem nameT_of {r : List D} (h : nameT r = true) : ∃ n, r = [.str n] ∧ n ∈ five := by
  cases r with
  | nil => cases h
  | cons a r =>
    cases r with
    | nil =>
      obtain ⟨n, rfl, hn⟩ := okN_of (show okN a = true from h)
      exact ⟨n, rfl, hn⟩
    | cons _ _ => cases h
theorem len2 {α : Type} {l : List α} (h : l.length = 2) : ∃ a b, l = [a, b] := by
  match l, h with
  | [a, b], _ => exact ⟨a, b, rfl⟩
theorem tupB_of {d : Nat} {v : D} (h : treeB (d + 1) v = true) : ∃ w r, v = .tup (.str w :: r) := by
  cases v with
  | tup xs =>
    cases xs with
    | nil => cases h
    | cons a r =>
      cases a with
      | str w => exact ⟨w, r, rfl⟩
      | _ => cases h
  | _ => cases h
theorem tree_of : ∀ (d : Nat) (v : D), treeB d v = true → ∃ t : Tr, v = t.enc ∧ t.ok ∧ t.dep ≤ d
  | 0, v, h => by cases h
  | d + 1, v, h => by
    obtain ⟨w, r, rfl⟩ := tupB_of h
    · rw [treeB_s] at h
      by_cases hw : w = "name"
      · subst hw
        rw [if_pos rfl] at h
        obtain ⟨n, rfl, hn⟩ := nameT_of h
        exact ⟨.nam n, rfl, hn, by simp [Tr.dep]⟩
      · rw [if_neg hw, Bool.and_eq_true] at h
        obtain ⟨h1, h2⟩ := h
        have h2 := List.all_eq_true.mp h2
        rcases parts_cases (of_decide_eq_true h1) with ⟨e, z | z⟩ | ⟨e, z⟩ | ⟨e, z | z⟩
        · have := List.eq_nil_of_length_eq_zero e
          subst this z
          exact ⟨.all, rfl, trivial, by simp [Tr.dep]⟩
        · have := List.eq_nil_of_length_eq_zero e
          subst this z
          exact ⟨.non, rfl, trivial, by simp [Tr.dep]⟩
        · obtain ⟨a, rfl⟩ := List.length_eq_one_iff.mp e
          subst z
          obtain ⟨t, rfl, k1, k2⟩ := tree_of d a (h2 a (by simp))
          exact ⟨.nt t, rfl, k1, by simp only [Tr.dep]; omega⟩
        · obtain ⟨a, b, rfl⟩ := len2 e
          subst z
          obtain ⟨t, rfl, k1, k2⟩ := tree_of d a (h2 a (by simp))
          obtain ⟨u, rfl, k3, k4⟩ := tree_of d b (h2 b (by simp))
          exact ⟨.bin true t u, rfl, ⟨k1, k3⟩, by simp only [Tr.dep]; omega⟩
        · obtain ⟨a, b, rfl⟩ := len2 e
          subst z
          obtain ⟨t, rfl, k1, k2⟩ := tree_of d a (h2 a (by simp))
          obtain ⟨u, rfl, k3, k4⟩ := tree_of d b (h2 b (by simp))
          exact ⟨.bin false t u, rfl, ⟨k1, k3⟩, by simp only [Tr.dep]; omega⟩
end
end KX
namespace KX
open PySem PySem.Spec PyProof.Rows L2 DL
noncomputable section
abbrev tp (s : List Str) : D := .tup (s.map .str)
theorem add_t {a b : List D} (h : a.length + b.length ≤ 9000) : addD (.tup a) (.tup b) = Pure.pure (.tup (a ++ b)) := if_pos (by rw [sizeLine_eq]; omega)
structure Words (W : List Str) : Prop where
  asc : W.Pairwise SX.ltT
  sub : ∀ w ∈ W, w ∈ five
  len : W.length ≤ 4
theorem pick_t {n : Int} {P : Pot} {ds : List D} (h : PO n P) (hn : n < 2 ^ 39) (hl : 0 < ds.length) (hs : ds.length < 4000) : wp (g_l_pick [.p, .v (.tup ds)]) P fun d P' => d ∈ ds ∧ PO (n + 1) P' := by
  show wp (m_l_pick (.tup ds)) P _
  unfold m_l_pick
  simp only [pb, asc, v0, v1, f1e, le_t]
  have lg : ((ds.length : Nat) : Int).natAbs.log2 < 9000 := by
    rw [Int.natAbs_natCast]
    exact Nat.lt_trans ((Nat.log2_lt (by omega)).mpr (show ds.length < 2 ^ 12 by omega)) (by decide)
  refine wp_bind (wp_mono (bit_w h hn (by omega) lg) fun d P' ⟨r, e, r0, r1, q⟩ => ?_)
  subst e
  obtain ⟨z, e1, e2⟩ := atI_nat (xs := ds) r0 r1
  have e3 : ixD (.tup ds) (.int r) = Pure.pure z := by
    show M.some (atI ds r) = _
    rw [e1]; exact Eq.trans rfl rfl
  rw [e3]
  simp only [pb, dR]
  exact wp_pure ⟨e2, q⟩
/-- how many numbers a tree may take -/
def gg : Nat → Nat
  | 0 => 2
  | e + 1 => 1 + 2 * gg e
theorem gg_two : ∀ e, 2 ≤ gg e
  | 0 => Nat.le_refl _
  | e + 1 => by have := gg_two e; unfold gg; omega
/-- a drawn tree -/
structure Drawn (W : List Str) (d : Nat) (t : Tr) : Prop where
  ok : t.ok
  dep : t.dep ≤ d
  nm : ∀ x ∈ t.names, x ∈ W
theorem l8 : (8 : Int).natAbs.log2 < 9000 := by decide
theorem tree_w {W : List Str} (hW : Words W) (h0 : 0 < W.length) : ∀ (e n : Nat) (k : Int) (P : Pot), e < n → PO k P → k + gg e < 2 ^ 39 → wp (g_l_tree n [.p, .v (tp W), .v (.int ((e + 1 : Nat) : Int))]) P fun r P' => ∃ t : Tr, r = t.enc ∧ Drawn W (e + 1) t ∧ PO (k + gg e) P'
  | e, 0, _, _, h, _, _ => absurd h (Nat.not_lt_zero _)
  | e, n + 1, k, P, hn, hp, hk => by
    have g2 := gg_two e
    have hx : 0 < (W.map D.str).length := by rw [List.length_map]; exact h0
    have hx2 : (W.map D.str).length < 4000 := by rw [List.length_map]; have := hW.len; omega
    show wp (m_l_tree (g_l_tree n) (tp W) (.int ((e + 1 : Nat) : Int))) P _
    unfold m_l_tree
    simp only [pb, asc, thB, thN]
    refine wp_bind (wp_mono (bit_w hp (by omega) (by decide) l8) fun d P1 ⟨lot, ed, r0, r1, p1⟩ => ?_)
    subst ed
    have leaf : ∀ {β : Type} (Q : Fl β → Pot → Prop), True := fun _ => trivial
    by_cases c1 : ((e + 1 : Nat) : Int) < 2 ∨ lot < 2
    · have ec : ∀ {β : Type} (k : Bool → M β), (ltD (.int ((e + 1 : Nat) : Int)) (.int 2) >>= fun x => boolD x >>= fun x => (if x = true then Pure.pure true else ltD (.int lot) (.int 2) >>= boolD) >>= k) = k true := fun k => by
        rw [lt_int, pb, bB, pb]
        by_cases z : ((e + 1 : Nat) : Int) < 2
        · rw [decide_eq_true z, ittr, pb]
        · rw [decide_eq_false z, itfa, lt_int, pb, bB, pb, decide_eq_true (c1.resolve_left z)]
      simp only [pb, asc, thB, thN, ec, ittr, itT]
      by_cases c2 : 0 < lot
      · simp only [gt_int, pb, asc, thB, bB, decide_eq_true c2, ittr, itT]
        refine wp_bind (wp_mono (pick_t p1 (by omega) hx hx2) fun d P2 ⟨hm, p2⟩ => ?_)
        obtain ⟨w, hw, rfl⟩ := List.mem_map.mp hm
        simp only [pb, v0, v1, asc, t2, thR, dR]
        exact wp_pure ⟨.nam w, rfl, ⟨hW.sub w hw, by simp only [Tr.dep]; omega, fun x hx => by rw [List.mem_singleton.mp hx]; exact hw⟩, p2.mono (by omega)⟩
      · obtain ⟨w, ws, eW⟩ : ∃ w ws, W = w :: ws := by
          cases W with
          | nil => simp at h0
          | cons w ws => exact ⟨w, ws, rfl⟩
        have ix : ixD (tp W) (.int 0) = Pure.pure (.str w) := by
          have e : atI (.str w :: ws.map D.str) 0 = some (.str w) := by
            unfold atI ixN
            rw [if_pos (by omega), if_pos (by rw [List.length_cons]; omega)]
            rfl
          rw [eW]
          show M.some (atI (.str w :: ws.map D.str) 0) = _
          rw [e]; exact Eq.trans rfl rfl
        simp only [gt_int, pb, asc, thB, bB, decide_eq_false c2, itfa, itF, ix, v0, v1, t1, t2, mkLe (show ([.tup [.str "all"], .tup [.str "none"], .tup [.str "name", .str w]] : List D).length ≤ sizeLine from line9 (by simp))]
        refine wp_bind (wp_mono (pick_w p1 (by omega) (by simp) (by simp)) fun d P2 ⟨hm, p2⟩ => ?_)
        simp only [pb, thR, dR]
        refine wp_pure ?_
        have hw : w ∈ W := by rw [eW]; exact List.mem_cons_self
        have p3 := p2.mono (show k + 1 + 1 ≤ k + gg e by omega)
        simp only [List.mem_cons, List.not_mem_nil, or_false] at hm
        rcases hm with z | z | z
        · exact ⟨.all, z, ⟨trivial, by simp only [Tr.dep]; omega, fun x hx => absurd hx List.not_mem_nil⟩, p3⟩
        · exact ⟨.non, z, ⟨trivial, by simp only [Tr.dep]; omega, fun x hx => absurd hx List.not_mem_nil⟩, p3⟩
        · exact ⟨.nam w, z, ⟨hW.sub w hw, by simp only [Tr.dep]; omega, fun x hx => by rw [List.mem_singleton.mp hx]; exact hw⟩, p3⟩
    · obtain ⟨e', rfl⟩ : ∃ e', e = e' + 1 := ⟨e - 1, by omega⟩
      have gs : gg (e' + 1) = 1 + 2 * gg e' := rfl
      have z1 : ¬ ((e' + 1 + 1 : Nat) : Int) < 2 := by omega
      have z2 : ¬ lot < 2 := fun z => c1 (.inr z)
      have sb : subD (.int ((e' + 1 + 1 : Nat) : Int)) (.int 1) = Pure.pure (.int ((e' + 1 : Nat) : Int)) := by rw [sub_ii]; congr 2; omega
      simp only [pb, asc, thB, thN, lt_int, bB, decide_eq_false z1, decide_eq_false z2, itfa, itF, thI, sb]
      by_cases c3 : lot < 4
      · simp only [decide_eq_true c3, ittr, itT, pb, asc, thB, thN]
        refine wp_bind (wp_mono (tree_w hW h0 e' n (k + 1) P1 (by omega) p1 (by omega)) fun d P2 ⟨t, et, ht, p2⟩ => ?_)
        subst et
        simp only [pb, v0, v1, asc, t2, thR, dR]
        exact wp_pure ⟨.nt t, rfl, ⟨ht.ok, by have := ht.dep; simp only [Tr.dep]; omega, ht.nm⟩, p2.mono (by omega)⟩
      · have fin : ∀ (b : Bool) (w : Str), D.str w = .str (if b then "and" else "or") → wp (g_l_tree n [.p, .v (tp W), .v (.int ((e' + 1 : Nat) : Int))] >>= fun x => g_l_tree n [.p, .v (tp W), .v (.int ((e' + 1 : Nat) : Int))] >>= fun y => mkT [.str w, x, y] >>= fun d => doneF (α := Unit) (.rt d)) P1 fun r P' => ∃ t : Tr, r = t.enc ∧ Drawn W (e' + 1 + 1) t ∧ PO (k + gg (e' + 1)) P' := fun b w ew => by
          refine wp_bind (wp_mono (tree_w hW h0 e' n (k + 1) P1 (by omega) p1 (by omega)) fun d P2 ⟨t, et, ht, p2⟩ => ?_)
          refine wp_bind (wp_mono (tree_w hW h0 e' n (k + 1 + gg e') P2 (by omega) p2 (by omega)) fun d P3 ⟨u, eu, hu, p3⟩ => ?_)
          subst et eu
          simp only [t3, pb, dR]
          refine wp_pure ⟨.bin b t u, ?_, ⟨⟨ht.ok, hu.ok⟩, by have := ht.dep; have := hu.dep; simp only [Tr.dep]; omega, fun x hx => ?_⟩, p3.mono (by omega)⟩
          · rw [ew]; cases b <;> rfl
          · rcases List.mem_append.mp hx with z | z
            · exact ht.nm x z
            · exact hu.nm x z
        simp only [decide_eq_false c3, itfa, itF, pb, asc, thB, thN]
        by_cases c4 : lot < 6
        · simp only [decide_eq_true c4, ittr, itT, pb, asc, v0, v1]
          exact fin true _ rfl
        · simp only [decide_eq_false c4, itfa, itF, pb, asc, v0, v1]
          exact fin false _ rfl
end
end KX
namespace KX
open PySem PySem.Spec PyProof.Rows L2 DL
noncomputable section
theorem erase_perm {α : Type} : ∀ (l : List α) (i : Nat) (h : i < l.length), (l[i] :: l.eraseIdx i).Perm l
  | x :: xs, 0, _ => List.Perm.refl _
  | x :: xs, i + 1, h => by
    have h' : i < xs.length := Nat.lt_of_succ_lt_succ h
    show (xs[i] :: x :: xs.eraseIdx i).Perm (x :: xs)
    exact (List.Perm.swap _ _ _).trans ((erase_perm xs i h').cons x)
theorem ix_nat {i : Int} {n : Nat} (h0 : 0 ≤ i) (h : i < n) : seqIndex? i n = some i.toNat := by
  unfold seqIndex?
  simp only [show ¬ i < 0 by omega, if_false]
  rw [if_pos (by simp [h0, h])]
theorem pop_e {ds : List D} {i : Int} (h0 : 0 ≤ i) (h : i < ds.length) (hl : ds.length < 4000) : ∃ d rest, popD ds (.int i) = Pure.pure (d, rest) ∧ (d :: rest).Perm ds := by
  have hi : i.toNat < ds.length := by omega
  refine ⟨ds[i.toNat], ds.eraseIdx i.toNat, ?_, erase_perm _ _ hi⟩
  show (if -(2 ^ 63) ≤ i ∧ i < 2 ^ 63 then M.some ((seqIndex? i ds.length).bind fun j => (ds[j]?).map fun d => (d, ds.eraseIdx j)) else M.no) = _
  rw [if_pos (by omega), ix_nat h0 h]
  show M.some ((ds[i.toNat]?).map _) = _
  rw [List.getElem?_eq_getElem hi]
  rfl
theorem wp_compO {me : List D → D → M (D × List D)} : ∀ (ds ws : List D) (k : Int) (P : Pot), ds.length ≤ ws.length → ws.length < 4000 → k + ds.length < 2 ^ 39 → PO k P → (∀ ws d, me ws d = (g_l_bit [.p, .v (.int (ws.length : Nat))] >>= popD ws)) →
    wp (compO me ws ds) P fun rs P' => rs.length = ds.length ∧ (∃ rest, (rs ++ rest).Perm ws) ∧ PO (k + ds.length) P'
  | [], ws, k, P, _, _, _, hp, _ => wp_pure ⟨rfl, ⟨ws, List.Perm.refl _⟩, hp.mono (by simp)⟩
  | d :: ds, ws, k, P, hl, hw, hk, hp, hm => by
    simp only [List.length_cons] at hl hk
    unfold compO
    rw [hm]
    have lg : ((ws.length : Nat) : Int).natAbs.log2 < 9000 := by
      rw [Int.natAbs_natCast]
      exact Nat.lt_trans ((Nat.log2_lt (by omega)).mpr (show ws.length < 2 ^ 12 by omega)) (by decide)
    refine wp_bind (wp_noEx (wp_bind (wp_mono (bit_w hp (by omega) (by omega) lg) fun x P1 ⟨r, ex, r0, r1, p1⟩ => ?_)))
    subst ex
    obtain ⟨y, rest, e, pm⟩ := pop_e r0 r1 hw
    rw [e]
    refine wp_pure ?_
    have lr : rest.length + 1 = ws.length := by have := pm.length_eq; simpa using this
    refine wp_bind (wp_mono (wp_noEx (wp_compO ds rest (k + 1) P1 (by omega) (by omega) (by omega) p1 hm)) fun rs P2 ⟨h1, ⟨re, h2⟩, h3⟩ => ?_)
    refine wp_pure ⟨by rw [List.length_cons, List.length_cons, h1], ⟨re, ?_⟩, h3.mono (by rw [List.length_cons]; omega)⟩
    exact (h2.cons y).trans pm
theorem dealt_w {ds : List D} {k : Int} {P : Pot} (hl : ds.length < 90) (hk : k < 2 ^ 38) (hp : PO k P) : wp (g_l_dealt [.p, .v (.lst ds)]) P fun d P' => ∃ rs : List D, d = .lst rs ∧ rs.Perm ds ∧ PO (k + ds.length) P' := by
  show wp (m_l_dealt (.lst ds)) P _
  unfold m_l_dealt
  have i1 : itemsD (.lst ds) = Pure.pure ds := Eq.trans rfl rfl
  have l1 : (rngs 0 ((ds.length : Nat) : Int)).length = ds.length := by rw [rngs_len (by omega)]; omega
  simp only [pb, asc, i1, thB, thN, v0, v1, f1e, le_l, rng_e (j := ((ds.length : Nat) : Int)) ⟨by omega, by omega⟩]
  refine wp_bind (wp_noEx (wp_mono (wp_compO _ ds k P (by omega) (by omega) (by omega) hp fun ws d => ?_) fun rs P1 ⟨h1, ⟨rest, h2⟩, h3⟩ => ?_))
  · simp only [pb, asc]
  · rw [l1] at h1 h3
    have : rest = [] := by
      have := h2.length_eq
      rw [List.length_append] at this
      exact List.length_eq_zero_iff.mp (by omega)
    subst this
    rw [List.append_nil] at h2
    rw [mkLe (by rw [h1, sizeLine_eq]; omega)]
    simp only [pb, dR]
    exact wp_pure ⟨rs, rfl, h2, h3⟩
theorem cut_to {α : Type} (xs : List α) (n : Nat) : cutL xs none (some (n : Int)) = xs.take n := by
  have e1 : HT.sIx xs.length 0 none = 0 := rfl
  have e2 : HT.sIx xs.length xs.length (some (n : Int)) = min n xs.length := HT.sIx_nat _ _ n
  unfold cutL
  rw [e1, e2, List.drop_zero, Nat.sub_zero]
  by_cases h : n ≤ xs.length
  · rw [Nat.min_eq_left h]
  · rw [Nat.min_eq_right (by omega), List.take_of_length_le (by omega), List.take_of_length_le (by omega)]
theorem perm_strs {rs : List D} {us : List Str} (h : rs.Perm (us.map .str)) : ∃ vs : List Str, rs = vs.map .str ∧ vs.Perm us := by
  let f : D → Str := fun d => match d with | .str x => x | _ => ""
  refine ⟨rs.map f, ?_, ?_⟩
  · rw [List.map_map]
    have : ∀ d ∈ rs, (D.str ∘ f) d = d := fun d hd => by
      obtain ⟨u, _, rfl⟩ := List.mem_map.mp (h.mem_iff.mp hd)
      rfl
    exact (List.map_id rs).symm.trans (List.map_congr_left fun d hd => (this d hd).symm)
  · have := h.map f
    rw [List.map_map] at this
    have e : us.map (f ∘ D.str) = us := (List.map_congr_left fun _ _ => rfl).trans (List.map_id _)
    rw [e] at this
    exact this
def five5 : List Str := ["a", "odd", "ends", "zzzzzzzz", "nota"]
theorem five5_nodup : five5.Nodup := by decide +kernel
theorem five5_sub : ∀ x ∈ five5, x ∈ five := by decide +kernel
/-- what m_l_right draws first -/
theorem draw_w {k : Int} {P : Pot} (hk : k < 2 ^ 30) (hp : PO k P) {β : Type} {f : D → M β} {Q : β → Pot → Prop} (hf : ∀ W P', Words W → 0 < W.length → PO (k + 6) P' → wp (f (tp W)) P' Q) :
    wp (g_l_dealt [.p, .v (.lst [.str "a", .str "odd", .str "ends", .str "zzzzzzzz", .str "nota"])] >>= fun x => g_l_bit [.p, .v (.int 4)] >>= fun y => addD (.int 1) y >>= fun z => partD z >>= fun u => sliceD x none u >>= fun x => sortD x >>= fun x => tupleD x >>= f) P Q := by
  refine wp_bind (wp_mono (dealt_w (ds := [.str "a", .str "odd", .str "ends", .str "zzzzzzzz", .str "nota"]) (by simp) (by omega) hp) fun d P1 ⟨rs, ed, pm, p1⟩ => ?_)
  subst ed
  obtain ⟨vs, rfl, pv⟩ := perm_strs (us := five5) pm
  refine wp_bind (wp_mono (bit_w p1 (by simp; omega) (by decide) (by decide)) fun d P2 ⟨r, ed, r0, r1, p2⟩ => ?_)
  subst ed
  have nd : vs.Nodup := pv.nodup_iff.mpr five5_nodup
  have lv : vs.length = 5 := pv.length_eq
  obtain ⟨n, rfl⟩ : ∃ n : Nat, r = (n : Int) := ⟨r.toNat, by omega⟩
  have sl : sliceD (.lst (vs.map .str)) none (some ((n + 1 : Nat) : Int)) = Pure.pure (.lst ((vs.take (n + 1)).map .str)) := by
    rw [List.map_take, ← cut_to]
    exact Eq.trans rfl rfl
  have e1 : (1 : Int) + (n : Int) = ((n + 1 : Nat) : Int) := by omega
  have ndt : (vs.take (n + 1)).Nodup := nd.sublist (List.take_sublist _ _)
  have lt : (vs.take (n + 1)).length = n + 1 := by rw [List.length_take, lv]; omega
  simp only [add_ii, pb, part_e, e1, sl, sort_strs ndt (by omega), tu_l]
  have mem : ∀ x ∈ SX.srtS (vs.take (n + 1)), x ∈ vs.take (n + 1) := fun x hx => SX.srtS_mem.mp hx
  refine hf (SX.srtS (vs.take (n + 1))) P2 ⟨SX.srtS_asc, fun w hw => five5_sub w (pv.mem_iff.mp (List.mem_of_mem_take (mem w hw))), ?_⟩ ?_ (p2.mono (by simp; omega))
  · have := sub_len (asc_nodup SX.srtS_asc) mem
    omega
  · cases hv : vs.take (n + 1) with
    | nil => rw [hv] at lt; simp at lt
    | cons x xs =>
      have : x ∈ SX.srtS (x :: xs) := SX.srtS_mem.mpr List.mem_cons_self
      exact List.length_pos_of_mem this
end
end KX
namespace KX
open PySem PySem.Spec PyProof.Rows L2 DL
noncomputable section
theorem len_app (a b : Str) : (a ++ b).length = a.length + b.length := by
  show (a.cps ++ b.cps).size = _
  exact Array.size_append
theorem okS_iff {x : Str} : okS x = true ↔ ∀ c ∈ x.cps.toList, c < 1114112 := by
  unfold okS
  rw [← Array.all_toList, List.all_eq_true]
  exact ⟨fun h c hc => of_decide_eq_true (h c hc), fun h c hc => decide_eq_true (h c hc)⟩
theorem okS_app {a b : Str} (ha : okS a = true) (hb : okS b = true) : okS (a ++ b) = true := okS_iff.mpr fun c hc => by
  have e : (a ++ b).cps.toList = a.cps.toList ++ b.cps.toList := Array.toList_append
  rw [e] at hc
  rcases List.mem_append.mp hc with z | z
  · exact okS_iff.mp ha c z
  · exact okS_iff.mp hb c z
theorem char_lt (c : Char) : c.toNat < 1114112 := by
  have h := c.valid
  rcases h with h | ⟨_, h⟩
  · have : c.toNat < 0xd800 := h
    omega
  · exact h
theorem okS_of (s : String) : okS (Str.ofString s) = true := okS_iff.mpr fun c hc => by
  rw [Str.ofString_eq_toList] at hc
  obtain ⟨d, _, rfl⟩ := List.mem_map.mp (by simpa using hc : c ∈ s.toList.map Char.toNat)
  exact char_lt d
theorem reprChar_ok {q c : Nat} (hc : c < 1114112) : ∀ d ∈ Builtin.Str.reprChar q c, d < 1114112 := by
  have hx : ∀ (w : Nat) (l : List Char), ∀ d ∈ List.replicate w 48 ++ l.map Char.toNat, d < 1114112 := fun w l d hd => by
    rcases List.mem_append.mp hd with z | z
    · rw [List.eq_of_mem_replicate z]; omega
    · obtain ⟨e, _, rfl⟩ := List.mem_map.mp z
      exact char_lt e
  have two : ∀ (a b : Nat), a < 1114112 → b < 1114112 → ∀ d ∈ [a, b], d < 1114112 := fun a b ha hb d hd => by
    rcases List.mem_cons.mp hd with z | z
    · omega
    · have := List.mem_singleton.mp z; omega
  have app : ∀ (w : Nat) (a b : Nat), a < 1114112 → b < 1114112 → ∀ d ∈ [a, b] ++ (List.replicate (w - ((Nat.toDigits 16 c).map Char.toNat).length) 48 ++ (Nat.toDigits 16 c).map Char.toNat), d < 1114112 := fun w a b ha hb d hd => by
    rcases List.mem_append.mp hd with z | z
    · exact two a b ha hb d z
    · exact hx _ _ d z
  unfold Builtin.Str.reprChar
  dsimp only
  intro d hd
  repeat' split at hd
  · exact two _ _ (by omega) hc d hd
  · exact two _ _ (by omega) (by omega) d hd
  · exact two _ _ (by omega) (by omega) d hd
  · exact two _ _ (by omega) (by omega) d hd
  · have := List.mem_singleton.mp hd; omega
  · exact app 2 _ _ (by omega) (by omega) d hd
  · exact app 4 _ _ (by omega) (by omega) d hd
  · exact app 8 _ _ (by omega) (by omega) d hd
theorem foldl_ok (q : Nat) : ∀ (l : List Nat) (acc : Array Nat), (∀ c ∈ l, c < 1114112) → (∀ c ∈ acc.toList, c < 1114112) → ∀ d ∈ (l.foldl (fun out c => out ++ (Builtin.Str.reprChar q c).toArray) acc).toList, d < 1114112
  | [], acc, _, h => h
  | c :: l, acc, hl, h => by
    rw [List.foldl_cons]
    refine foldl_ok q l _ (fun x hx => hl x (List.mem_cons_of_mem _ hx)) fun d hd => ?_
    rw [Array.toList_append] at hd
    rcases List.mem_append.mp hd with z | z
    · exact h d z
    · exact reprChar_ok (hl c List.mem_cons_self) d (by simpa using z)
theorem okS_repr {x : Str} (h : okS x = true) : okS (reprText x) = true := okS_iff.mpr fun d hd => by
  have hq : reprQuote x < 1114112 := by unfold reprQuote; split <;> decide
  unfold reprText at hd
  rw [Array.toList_push, ← Array.foldl_toList] at hd
  rcases List.mem_append.mp hd with z | z
  · exact foldl_ok _ _ _ (okS_iff.mp h) (fun c hc => by have := List.mem_singleton.mp (by simpa using hc : c ∈ [reprQuote x]); omega) d z
  · have := List.mem_singleton.mp z; omega
theorem okS_from : ∀ (ts : List Str) (k : Nat) (acc : Str), okS acc = true → (∀ t ∈ ts, okS t = true) → okS (textFrom k acc ts) = true
  | [], _, _, h, _ => h
  | t :: ts, k, acc, h, ht => by
    unfold textFrom
    exact okS_from ts _ _ (okS_app (okS_app h (okS_of _)) (ht t List.mem_cons_self)) fun x hx => ht x (List.mem_cons_of_mem _ hx)
theorem okS_join : ∀ (ts : List Str), (∀ t ∈ ts, okS t = true) → okS (Str.join ", " ts) = true
  | [], _ => by decide +kernel
  | [t], h => h t List.mem_cons_self
  | t :: u :: ts, h => okS_app (okS_app (h t List.mem_cons_self) (okS_of _)) (okS_join (u :: ts) fun x hx => h x (List.mem_cons_of_mem _ hx))
mutual
theorem shown_ok : ∀ p : PyData, p.canLay0 = true → okS p.shown = true
  | .none, _ => by simp only [PyData.shown]; exact okS_of _
  | .bool b, _ => by simp only [PyData.shown]; split <;> exact okS_of _
  | .int i, _ => by simp only [PyData.shown]; exact okS_of _
  | .str x, h => by simp only [PyData.shown]; exact okS_repr h
  | .list xs, h => by
    simp only [PyData.shown]
    exact okS_app (okS_from _ _ _ (okS_of _) (shownAll_ok xs h)) (okS_of _)
  | .tuple xs, h => by
    simp only [PyData.shown]
    exact okS_app (okS_app (okS_of _) (okS_join _ (shownAll_ok xs h))) (okS_of _)
  | .dict _, h => by simp [PyData.canLay0] at h
theorem shownAll_ok : ∀ xs : List PyData, PyData.canLayAll0 xs = true → ∀ t ∈ PyData.shownAll xs, okS t = true
  | [], _ => fun t ht => by simp [PyData.shownAll] at ht
  | x :: xs, h => by
    simp only [PyData.canLayAll0, Bool.and_eq_true] at h
    intro t ht
    simp only [PyData.shownAll, List.mem_cons] at ht
    rcases ht with z | z
    · rw [z]; exact shown_ok x h.1
    · exact shownAll_ok xs h.2 t z
end
mutual
def szP : PyData → Nat
  | .none => 4 | .bool _ => 5
  | .int i => (Str.ofString (toString i)).length
  | .str x => 10 * x.length + 2
  | .list xs => szs xs + 2
  | .tuple xs => szs xs + 3
  | .dict _ => 0
def szs : List PyData → Nat
  | [] => 0
  | x :: xs => szP x + 2 + szs xs
end
theorem from_len : ∀ (ts : List Str) (k : Nat) (acc : Str), (textFrom k acc ts).length ≤ acc.length + (ts.map fun t => t.length + 2).sum
  | [], _, _ => by unfold textFrom; omega
  | t :: ts, k, acc => by
    unfold textFrom
    have := from_len ts (k + 1) (acc ++ (if k > 0 then ", " else "" : String) ++ t)
    have l : (Str.ofString (if k > 0 then ", " else "" : String)).length ≤ 2 := by split <;> decide +kernel
    rw [len_app, len_app] at this
    simp only [List.map_cons, List.sum_cons]
    omega
theorem join_len : ∀ ts : List Str, (Str.join ", " ts).length ≤ (ts.map fun t => t.length + 2).sum
  | [] => by decide +kernel
  | [t] => by simp [Str.join]
  | t :: u :: ts => by
    show (t ++ Str.ofString ", " ++ Str.join ", " (u :: ts)).length ≤ _
    have := join_len (u :: ts)
    have l : (Str.ofString ", ").length = 2 := by decide +kernel
    rw [len_app, len_app, l]
    simp only [List.map_cons, List.sum_cons] at this ⊢
    omega
mutual
theorem shown_len : ∀ p : PyData, p.canLay0 = true → p.shown.length ≤ szP p
  | .none, _ => by simp only [PyData.shown, szP]; decide +kernel
  | .bool b, _ => by cases b <;> (simp only [PyData.shown, szP]; decide +kernel)
  | .int i, _ => by simp only [PyData.shown, szP]; exact Nat.le_refl _
  | .str x, h => by
    simp only [PyData.shown, szP]
    exact PySem.StrLaws.reprText_len x fun c hc => Nat.lt_of_lt_of_le (okS_iff.mp h c hc) (by decide)
  | .list xs, h => by
    simp only [PyData.shown, szP]
    have := from_len (PyData.shownAll xs) 0 (Str.ofString "[")
    have h2 := shownAll_len xs h
    have l1 : (Str.ofString "[").length = 1 := by decide +kernel
    have l2 : (Str.ofString "]").length = 1 := by decide +kernel
    show (textFrom 0 (Str.ofString "[") (PyData.shownAll xs) ++ Str.ofString "]").length ≤ _
    rw [len_app]
    omega
  | .tuple xs, h => by
    simp only [PyData.shown, szP]
    have := join_len (PyData.shownAll xs)
    have h2 := shownAll_len xs h
    have l1 : (Str.ofString "(").length = 1 := by decide +kernel
    have l2 : (Str.ofString (if (PyData.shownAll xs).length == 1 then ",)" else ")" : String)).length ≤ 2 := by split <;> decide +kernel
    show (Str.ofString "(" ++ Str.join ", " (PyData.shownAll xs) ++ Str.ofString (if (PyData.shownAll xs).length == 1 then ",)" else ")" : String)).length ≤ _
    rw [len_app, len_app]
    omega
  | .dict _, h => by simp [PyData.canLay0] at h
theorem shownAll_len : ∀ xs : List PyData, PyData.canLayAll0 xs = true → ((PyData.shownAll xs).map fun t => t.length + 2).sum ≤ szs xs
  | [], _ => by simp [PyData.shownAll, szs]
  | x :: xs, h => by
    simp only [PyData.canLayAll0, Bool.and_eq_true] at h
    have h1 := shown_len x h.1
    have h2 := shownAll_len xs h.2
    simp only [PyData.shownAll, szs, List.map_cons, List.sum_cons]
    omega
end
/-- the text of data, and that it may be compared -/
theorem repr_e {d : D} {p : PyData} (hp : toPy d = some p) (hk : (∃ xs, p = .list xs) ∨ ∃ xs, p = .tuple xs) (h1 : p.canLay0 = true) (h2 : p.showable = true) (h3 : p.depth ≤ 100) (h4 : szP p ≤ 90000) : ∃ s, reprD d = Pure.pure (.str s) ∧ PyData.canLay0 (.str s) = true := by
  have hl := shown_len p h1
  have c : p.showable = true ∧ p.hasDict = false ∧ p.depth ≤ 100 ∧ p.shown.length ≤ sizeLine := ⟨h2, PyData.hasDict_of_canLay p h1, h3, by rw [sizeLine_eq]; omega⟩
  refine ⟨p.shown, ?_, shown_ok p h1⟩
  unfold reprD
  rw [hp]
  rcases hk with ⟨xs, rfl⟩ | ⟨xs, rfl⟩ <;> exact if_pos c
end
end KX
namespace KX
open PySem PySem.Spec PyProof.Rows L2 DL
noncomputable section
theorem l_all : (Str.ofString "all").length = 3 := by decide +kernel
theorem l_none : (Str.ofString "none").length = 4 := by decide +kernel
theorem l_and : (Str.ofString "and").length = 3 := by decide +kernel
theorem l_or : (Str.ofString "or").length = 2 := by decide +kernel
def py : Tr → PyData
  | .all => .tuple [.str (Str.ofString "all")]
  | .non => .tuple [.str (Str.ofString "none")]
  | .nam w => .tuple [.str (Str.ofString "name"), .str w]
  | .nt t => .tuple [.str (Str.ofString "not"), py t]
  | .bin true a b => .tuple [.str (Str.ofString "and"), py a, py b]
  | .bin false a b => .tuple [.str (Str.ofString "or"), py a, py b]
theorem toPy_enc : ∀ t : Tr, toPy t.enc = some (py t)
  | .all => by simp [Tr.enc, py, toPy, toPys]
  | .non => by simp [Tr.enc, py, toPy, toPys]
  | .nam w => by simp [Tr.enc, py, toPy, toPys]
  | .nt t => by simp [Tr.enc, py, toPy, toPys, toPy_enc t]
  | .bin true a b => by simp [Tr.enc, py, toPy, toPys, toPy_enc a, toPy_enc b]
  | .bin false a b => by simp [Tr.enc, py, toPy, toPys, toPy_enc a, toPy_enc b]
theorem py_lay : ∀ t : Tr, t.ok → (py t).canLay0 = true
  | .all, _ => by simp [py, PyData.canLay0, PyData.canLayAll0]; exact okS_of _
  | .non, _ => by simp [py, PyData.canLay0, PyData.canLayAll0]; exact okS_of _
  | .nam w, h => by simp [py, PyData.canLay0, PyData.canLayAll0]; exact ⟨okS_of _, (five_ok w h).1⟩
  | .nt t, h => by simp [py, PyData.canLay0, PyData.canLayAll0]; exact ⟨okS_of _, py_lay t h⟩
  | .bin true a b, h => by simp [py, PyData.canLay0, PyData.canLayAll0]; exact ⟨okS_of _, py_lay a h.1, py_lay b h.2⟩
  | .bin false a b, h => by simp [py, PyData.canLay0, PyData.canLayAll0]; exact ⟨okS_of _, py_lay a h.1, py_lay b h.2⟩
theorem py_show : ∀ t : Tr, (py t).showable = true
  | .all => by simp [py, PyData.showable, PyData.showableAll]
  | .non => by simp [py, PyData.showable, PyData.showableAll]
  | .nam w => by simp [py, PyData.showable, PyData.showableAll]
  | .nt t => by simp [py, PyData.showable, PyData.showableAll, py_show t]
  | .bin true a b => by simp [py, PyData.showable, PyData.showableAll, py_show a, py_show b]
  | .bin false a b => by simp [py, PyData.showable, PyData.showableAll, py_show a, py_show b]
theorem py_dep : ∀ t : Tr, (py t).depth = t.dep
  | .all => by simp [py, PyData.depth, PyData.depthAll, Tr.dep]
  | .non => by simp [py, PyData.depth, PyData.depthAll, Tr.dep]
  | .nam w => by simp [py, PyData.depth, PyData.depthAll, Tr.dep]
  | .nt t => by simp [py, PyData.depth, PyData.depthAll, Tr.dep, py_dep t]
  | .bin true a b => by simp [py, PyData.depth, PyData.depthAll, Tr.dep, py_dep a, py_dep b]
  | .bin false a b => by simp [py, PyData.depth, PyData.depthAll, Tr.dep, py_dep a, py_dep b]
theorem l_name : (Str.ofString "name").length = 4 := by decide +kernel
theorem l_not3 : (Str.ofString "not").length = 3 := by decide +kernel
theorem py_sz : ∀ t : Tr, t.ok → szP (py t) + 41 ≤ 86 * 2 ^ t.dep
  | .all, _ => by simp only [py, szP, szs, l_all, Tr.dep]; decide
  | .non, _ => by simp only [py, szP, szs, l_none, Tr.dep]; decide
  | .nam w, h => by
    have : w.length ≤ 8 := (five_ok w h).2.1
    simp only [py, szP, szs, l_name, Tr.dep]; omega
  | .nt t, h => by
    have := py_sz t h
    simp only [py, szP, szs, l_not3, Tr.dep, Nat.pow_succ]; omega
  | .bin k a b, h => by
    have := py_sz a h.1
    have := py_sz b h.2
    have h1 : 2 ^ a.dep ≤ 2 ^ max a.dep b.dep := Nat.pow_le_pow_right (by decide) (Nat.le_max_left _ _)
    have h2 : 2 ^ b.dep ≤ 2 ^ max a.dep b.dep := Nat.pow_le_pow_right (by decide) (Nat.le_max_right _ _)
    cases k <;> simp only [py, szP, szs, l_and, l_or, Tr.dep, Nat.pow_succ] <;> omega
theorem shaped_py {t : Tr} (h : t.ok) (hd : t.dep ≤ 10) : SeqAt.shaped (py t) = true := by
  unfold SeqAt.shaped
  rw [py_lay t h, py_dep t, decide_eq_true (by omega)]
  rfl
theorem eq_enc {t u : Tr} (ht : t.ok) (hu : u.ok) (h1 : t.dep ≤ 10) (h2 : u.dep ≤ 10) : eqD t.enc u.enc = Pure.pure (.bl (PyData.eqv (py t) (py u))) := by
  unfold eqD
  rw [toPy_enc, toPy_enc]
  exact if_pos ⟨shaped_py ht h1, shaped_py hu h2⟩
theorem FS_eq (t : Tr) : FS t = [(Str.ofString "_tree", t.enc), (Str.ofString "_tuples", .tup t.subs), (Str.ofString "_names", .tup ((nms t).map .str))] := by
  unfold FS
  have h1 : ("_tree" : Str) ≠ "_tuples" := by decide +kernel
  have h2 : ("_tree" : Str) ≠ "_names" := by decide +kernel
  have h3 : ("_tuples" : Str) ≠ "_names" := by decide +kernel
  simp [putA, h1, h2, h3]
abbrev mad (t : Tr) : D := .ins "Formula" (FS t)
theorem f_tree (t : Tr) : fldD ["Formula"] "_tree" (mad t) = Pure.pure t.enc := by
  show (if ("Formula" : Str) ∈ (["Formula"] : List Str) then M.some ((FS t).lookup (Str.ofString "_tree")) else M.no) = _
  rw [if_pos (by simp), FS_eq]
  rw [List.lookup_cons]
  simp only [beq_self_eq_true]
  rfl
theorem ins_P (t : Tr) : insP "Formula" (mad t) = Pure.pure () := by
  show (if ("Formula" : Str) = "Formula" then Pure.pure () else M.no) = _
  exact if_pos rfl
theorem p_tree (t : Tr) : g_Formula_tree [.v (mad t)] = Pure.pure t.enc := by
  show m_Formula_tree (mad t) = _
  unfold m_Formula_tree
  simp only [pb, asc, f_tree, dR]
theorem isC_ins (t : Tr) : isiC "Formula" (mad t) = Pure.pure (.bl true) := by
  show M.some ((if ("Formula" : Str) = "Formula" then some true else none).map D.bl) = _
  rw [if_pos rfl]
  exact Eq.trans rfl rfl
theorem isC_no {d : D} {n : String} (h : tyN d = some n) : isiC "Formula" d = Pure.pure (.bl false) := by
  have go : isiM (fun _ => some false) (fun n => if n = "Formula" then some true else none) d = Pure.pure (.bl false) := by
    cases d <;> first | (cases h; done) | (unfold isiM; simp only [h]; exact Eq.trans rfl rfl)
  exact go
theorem py_refl {t : Tr} (h : t.ok) : PyData.eqv (py t) (py t) = true := PySem.SeqAt.eqv_refl _ (py_lay t h)
theorem repr1 {t : Tr} (hk : t.ok) (hd : t.dep ≤ 8) : ∃ s, reprD t.enc = Pure.pure (.str s) ∧ PyData.canLay0 (.str s) = true := by
  have s1 := py_sz t hk
  have s2 : 2 ^ t.dep ≤ 2 ^ 8 := Nat.pow_le_pow_right (by decide) hd
  refine repr_e (toPy_enc t) (.inr ?_) (py_lay t hk) (py_show t) (by rw [py_dep]; omega) (by omega)
  cases t with
  | bin k a b => cases k <;> exact ⟨_, rfl⟩
  | _ => exact ⟨_, rfl⟩
end
end KX
namespace KX
open PySem PySem.Spec PyProof.Rows L2 DL
noncomputable section
theorem five_tx : ∀ w ∈ five, w ∈ TX := by decide +kernel
theorem tx_kw : ("all" : Str) ∈ TX ∧ ("none" : Str) ∈ TX ∧ ("name" : Str) ∈ TX ∧ ("not" : Str) ∈ TX ∧ ("and" : Str) ∈ TX ∧ ("or" : Str) ∈ TX := by decide +kernel
theorem uni_enc : ∀ t : Tr, t.ok → uni t.enc = true
  | .all, _ => by simp [Tr.enc, uni, unis, tx_kw.1]
  | .non, _ => by simp [Tr.enc, uni, unis, tx_kw.2.1]
  | .nam w, h => by simp [Tr.enc, uni, unis, tx_kw.2.2.1, five_tx w h]
  | .nt t, h => by simp [Tr.enc, uni, unis, tx_kw.2.2.2.1, uni_enc t h]
  | .bin true a b, h => by simp [Tr.enc, uni, unis, tx_kw.2.2.2.2.1, uni_enc a h.1, uni_enc b h.2]
  | .bin false a b, h => by simp [Tr.enc, uni, unis, tx_kw.2.2.2.2.2, uni_enc a h.1, uni_enc b h.2]
theorem siz_enc : ∀ t : Tr, siz t.enc + 2 ≤ 3 * 2 ^ t.dep
  | .all => by simp [Tr.enc, siz, sizl, Tr.dep]
  | .non => by simp [Tr.enc, siz, sizl, Tr.dep]
  | .nam w => by simp [Tr.enc, siz, sizl, Tr.dep]
  | .nt t => by
    have := siz_enc t
    simp only [Tr.enc, siz, sizl, Tr.dep, Nat.pow_succ]; omega
  | .bin k a b => by
    have := siz_enc a
    have := siz_enc b
    have h1 : 2 ^ a.dep ≤ 2 ^ max a.dep b.dep := Nat.pow_le_pow_right (by decide) (Nat.le_max_left _ _)
    have h2 : 2 ^ b.dep ≤ 2 ^ max a.dep b.dep := Nat.pow_le_pow_right (by decide) (Nat.le_max_right _ _)
    cases k <;> simp only [Tr.enc, siz, sizl, Tr.dep, Nat.pow_succ] <;> omega
theorem kw_ne : ¬ ("all" : Str) = "name" ∧ ¬ ("none" : Str) = "name" ∧ ¬ ("not" : Str) = "name" ∧ ¬ ("and" : Str) = "name" ∧ ¬ ("or" : Str) = "name" := by decide +kernel
theorem kw_parts : parts "all" = 1 ∧ parts "none" = 1 ∧ parts "not" = 2 ∧ parts "and" = 3 ∧ parts "or" = 3 := by decide +kernel
theorem enc_B : ∀ (t : Tr) (d : Nat), t.ok → t.dep ≤ d → treeB d t.enc = true
  | t, 0, _, h => by cases t <;> simp [Tr.dep] at h
  | .all, d + 1, _, _ => by simp only [Tr.enc]; rw [treeB_s, if_neg kw_ne.1, kw_parts.1]; rfl
  | .non, d + 1, _, _ => by simp only [Tr.enc]; rw [treeB_s, if_neg kw_ne.2.1, kw_parts.2.1]; rfl
  | .nam w, d + 1, h, _ => by simp only [Tr.enc]; rw [treeB_s, if_pos rfl]; exact decide_eq_true h
  | .nt t, d + 1, h, hd => by
    have ih := enc_B t d h (by simp [Tr.dep] at hd; omega)
    simp only [Tr.enc]; rw [treeB_s, if_neg kw_ne.2.2.1, kw_parts.2.2.1]; simp [ih]
  | .bin true a b, d + 1, h, hd => by
    have i1 := enc_B a d h.1 (by simp [Tr.dep] at hd; omega)
    have i2 := enc_B b d h.2 (by simp [Tr.dep] at hd; omega)
    simp only [Tr.enc]; rw [treeB_s, if_neg kw_ne.2.2.2.1, kw_parts.2.2.2.1]; simp [i1, i2]
  | .bin false a b, d + 1, h, hd => by
    have i1 := enc_B a d h.1 (by simp [Tr.dep] at hd; omega)
    have i2 := enc_B b d h.2 (by simp [Tr.dep] at hd; omega)
    simp only [Tr.enc]; rw [treeB_s, if_neg kw_ne.2.2.2.2, kw_parts.2.2.2.2]; simp [i1, i2]
def BADF : Ex := ⟨"InvalidFormula", none⟩
theorem init_no {v : D} (hu : uni v = true) (hz : siz v ≤ 9000) (h : treeB 8 v = false) : g_Formula_init_d [.v v] = M.raise BADF := by
  show m_Formula_init_d v = _
  unfold m_Formula_init_d
  have e1 := is_tree_e 8 14 v hu hz (by omega)
  rw [h] at e1
  have e1' : g_is_tree 14 [.v v, .v (.int 8)] = Pure.pure (.bl false) := e1
  simp only [pb, asc, thB, e1', bB, ntf, ittr, itT, thX]
  rfl
theorem init_x {t : Tr} (hk : t.ok) (hd : t.dep ≤ 8) : g_Formula_init_d [.v t.enc] = if 4 < (nms t).length then M.raise BADF else Pure.pure (FS t) := by
  show m_Formula_init_d t.enc = _
  unfold m_Formula_init_d
  have hz : siz t.enc ≤ 9000 := by
    have := siz_enc t
    have : 2 ^ t.dep ≤ 2 ^ 8 := Nat.pow_le_pow_right (by decide) hd
    omega
  have e1 := is_tree_e 8 14 t.enc (uni_enc t hk) hz (by omega)
  rw [enc_B t 8 hk hd] at e1
  have e1' : g_is_tree 14 [.v t.enc, .v (.int 8)] = Pure.pure (.bl true) := e1
  have e2 := tups_e t 14 (by omega) (by omega)
  have z1 := subs_len t
  have z2 := pow10 (show t.dep ≤ 10 by omega)
  have z3 := names_len t
  simp only [pb, asc, thB, thN, e1', bB, ntn, itfa, itF, e2, it_t]
  have ht : ∀ t : Tr, (ixD t.enc (.int 0) >>= fun x => eqD x (.str (Str.ofString "name")) >>= boolD) = Pure.pure (match t with | .nam _ => true | _ => false) := fun t => by
    cases t with
    | bin k a b => cases k <;> (simp only [Tr.enc]; simp only [pb, asc, thB, thN, thR, thI, bB, ntn, ntf, ittr, itfa, itT, itF, v0, v1, f1e, f2e, dR, dX, q_all_all, q_all_none, q_all_name, q_all_not, q_all_and, q_all_or, q_none_all, q_none_none, q_none_name, q_none_not, q_none_and, q_none_or, q_name_all, q_name_none, q_name_name, q_name_not, q_name_and, q_name_or, q_not_all, q_not_none, q_not_name, q_not_not, q_not_and, q_not_or, q_and_all, q_and_none, q_and_name, q_and_not, q_and_and, q_and_or, q_or_all, q_or_none, q_or_name, q_or_not, q_or_and, q_or_or, i_all_ao, i_all_aa, i_all_an, i_none_ao, i_none_aa, i_none_an, i_name_ao, i_name_aa, i_name_an, i_not_ao, i_not_aa, i_not_an, i_and_ao, i_and_aa, i_and_an, i_or_ao, i_or_aa, i_or_an, k_all, k_none, k_not, k_and, k_or, x1_0, x2_0, x2_1, x3_0, x3_1, x3_2, l1_0, l2_0, l2_1, KX.s1, KX.s2, KX.s3, it_t, it_l, ln1, ln2, ln3, ll0, ll1, ll2, ne11, ne22, ne33, eq22, eq02, List.isEmpty_cons, List.isEmpty_nil, Bool.not_false, Bool.not_true, tt, tu_l, li_t, m0, m1, m2, m4, t0, t1, t2, t3, n0, c0, al_0, an_0, al_1, al_2, an_2, f0, isi_t, is_str, bt, bs, bss, noE, part_e])
    | _ => simp only [Tr.enc]; simp only [pb, asc, thB, thN, thR, thI, bB, ntn, ntf, ittr, itfa, itT, itF, v0, v1, f1e, f2e, dR, dX, q_all_all, q_all_none, q_all_name, q_all_not, q_all_and, q_all_or, q_none_all, q_none_none, q_none_name, q_none_not, q_none_and, q_none_or, q_name_all, q_name_none, q_name_name, q_name_not, q_name_and, q_name_or, q_not_all, q_not_none, q_not_name, q_not_not, q_not_and, q_not_or, q_and_all, q_and_none, q_and_name, q_and_not, q_and_and, q_and_or, q_or_all, q_or_none, q_or_name, q_or_not, q_or_and, q_or_or, i_all_ao, i_all_aa, i_all_an, i_none_ao, i_none_aa, i_none_an, i_name_ao, i_name_aa, i_name_an, i_not_ao, i_not_aa, i_not_an, i_and_ao, i_and_aa, i_and_an, i_or_ao, i_or_aa, i_or_an, k_all, k_none, k_not, k_and, k_or, x1_0, x2_0, x2_1, x3_0, x3_1, x3_2, l1_0, l2_0, l2_1, KX.s1, KX.s2, KX.s3, it_t, it_l, ln1, ln2, ln3, ll0, ll1, ll2, ne11, ne22, ne33, eq22, eq02, List.isEmpty_cons, List.isEmpty_nil, Bool.not_false, Bool.not_true, tt, tu_l, li_t, m0, m1, m2, m4, t0, t1, t2, t3, n0, c0, al_0, an_0, al_1, al_2, an_2, f0, isi_t, is_str, bt, bs, bss, noE, part_e]
  have dl := dc_e (mt := fun part17 => ixD part17 (.int 0) >>= fun x => eqD x (.str (Str.ofString "name")) >>= boolD) (mk := fun part17 => ixD part17 (.int 1)) (mv := fun _ => Pure.pure (.bl true)) ht (fun w => by simp only [Tr.enc]; simp only [pb, asc, thB, thN, thR, thI, bB, ntn, ntf, ittr, itfa, itT, itF, v0, v1, f1e, f2e, dR, dX, q_all_all, q_all_none, q_all_name, q_all_not, q_all_and, q_all_or, q_none_all, q_none_none, q_none_name, q_none_not, q_none_and, q_none_or, q_name_all, q_name_none, q_name_name, q_name_not, q_name_and, q_name_or, q_not_all, q_not_none, q_not_name, q_not_not, q_not_and, q_not_or, q_and_all, q_and_none, q_and_name, q_and_not, q_and_and, q_and_or, q_or_all, q_or_none, q_or_name, q_or_not, q_or_and, q_or_or, i_all_ao, i_all_aa, i_all_an, i_none_ao, i_none_aa, i_none_an, i_name_ao, i_name_aa, i_name_an, i_not_ao, i_not_aa, i_not_an, i_and_ao, i_and_aa, i_and_an, i_or_ao, i_or_aa, i_or_an, k_all, k_none, k_not, k_and, k_or, x1_0, x2_0, x2_1, x3_0, x3_1, x3_2, l1_0, l2_0, l2_1, KX.s1, KX.s2, KX.s3, it_t, it_l, ln1, ln2, ln3, ll0, ll1, ll2, ne11, ne22, ne33, eq22, eq02, List.isEmpty_cons, List.isEmpty_nil, Bool.not_false, Bool.not_true, tt, tu_l, li_t, m0, m1, m2, m4, t0, t1, t2, t3, n0, c0, al_0, an_0, al_1, al_2, an_2, f0, isi_t, is_str, bt, bs, bss, noE, part_e]) (fun _ => rfl) (subT t) [] (by
    have := congrArg List.length (subs_map t)
    rw [List.length_map] at this
    simp only [List.length_nil]
    omega)
  have k0 : kvT [] = [] := rfl
  rw [k0, stp_names] at dl
  rw [subs_map t, dl, noE]
  have nl := ins_len t.names []
  simp only [pb, asc, v0, v1, f1e, list_kv]
  rw [sort_strs (ins_nodup _ _ List.nodup_nil) (by simp only [List.length_nil] at nl; omega), nms_is]
  have gt : gtD (.int (((nms t).map D.str).length : Nat)) (.int 4) = Pure.pure (.bl (decide (4 < (nms t).length))) := by
    rw [gt_int, List.length_map]
    congr 2
    rw [Bool.eq_iff_iff]; simp; omega
  simp only [pb, thN, le_l, gt, bB, tu_l, v0, v1, f1e, asc, thB]
  rw [← subs_map]
  by_cases h4 : 4 < (nms t).length
  · rw [decide_eq_true h4, if_pos h4]
    simp only [ittr, itT, thX]
    exact Eq.trans rfl rfl
  · rw [decide_eq_false h4, if_neg h4]
    simp only [itfa, itF, thN, pb]
    exact Eq.trans rfl rfl
theorem lam_ok (d : D) : lamM hs_l_met_error (Pure.pure d) = Pure.pure d := Eq.trans rfl rfl
theorem lam_bad : lamM hs_l_met_error (M.raise BADF) = Pure.pure (.str "no formula") := by
  funext P
  show (noEx (pick hs_l_met_error BADF) >>= doneF) P = _
  have : pick hs_l_met_error BADF = Pure.pure (.rt (.str "no formula")) := by
    unfold hs_l_met_error BADF
    rfl
  rw [this]
  rfl
theorem eqnf : eqD (.str "no formula") (.str "no formula") = Pure.pure (.bl true) := by rw [eq_str (okS_of _) (okS_of _), beq_self_eq_true]
theorem isC_str (s : Str) : isiC "Formula" (.str s) = Pure.pure (.bl false) := isC_no (n := "str") rfl
theorem told_bad {v : D} (h : g_Formula_init_d [.v v] = M.raise BADF) : g_l_told [.v v] = Pure.pure .non := by
  show m_l_told v = _
  unfold m_l_told
  simp only [pb, asc, h, xb, lam_bad, thN, isC_str, bB, itfa, itF, eqnf, ittr, itT, dR]
theorem told_ok {t : Tr} (h : g_Formula_init_d [.v t.enc] = Pure.pure (FS t)) : g_l_told [.v t.enc] = Pure.pure t.enc := by
  show m_l_told t.enc = _
  unfold m_l_told
  have l : lamM hs_l_met_error (Pure.pure (mad t)) = Pure.pure (mad t) := lam_ok _
  simp only [pb, asc, h, l, thN, isC_ins, bB, ittr, itT, ins_P, p_tree, noE, dR]
theorem agree {v : D} (hu : uni v = true) (hz : siz v ≤ 9000) : ∃ d s, g_l_told [.v v] = Pure.pure d ∧ (g_l_is_tree [.v v] >>= fun x => boolD x >>= fun x => if x = true then Pure.pure v else Pure.pure .non) = (Pure.pure d : M D) ∧ reprN d = Pure.pure (.str s) ∧ PyData.canLay0 (.str s) = true := by
  have a1 := any_tree_e 8 14 v hu hz (by omega)
  have a1' : g_l_is_any_tree 14 [.v v, .v (.int 8)] = Pure.pure (.bl (treeB 8 v)) := a1
  have rn : reprN .non = Pure.pure (.str "None") := rfl
  cases hb : treeB 8 v with
  | false =>
    refine ⟨.non, "None", told_bad (init_no hu hz hb), ?_, rn, okS_of _⟩
    have e : g_l_is_tree [.v v] = Pure.pure (.bl false) := by
      show m_l_is_tree v = _
      unfold m_l_is_tree
      simp only [pb, asc, a1', hb, bB, itfa, itF, dR]
    rw [e, pb, bB, pb, itfa]
  | true =>
    obtain ⟨t, rfl, hk, hd⟩ := tree_of 8 v hb
    have w := words_e t 14 (by omega) (by omega)
    have e : g_l_is_tree [.v t.enc] = Pure.pure (.bl (decide (((nms t).length : Int) ≤ 4))) := by
      show m_l_is_tree t.enc = _
      unfold m_l_is_tree
      simp only [pb, asc, a1', hb, bB, ittr, itT, w, v0, v1, f1e, le_t, le_int, dR, List.length_map]
      rfl
    have ix := init_x hk hd
    by_cases h4 : 4 < (nms t).length
    · rw [if_pos h4] at ix
      refine ⟨.non, "None", told_bad ix, ?_, rn, okS_of _⟩
      rw [e, decide_eq_false (by omega), pb, bB, pb, itfa]
    · rw [if_neg h4] at ix
      obtain ⟨s, r1, r2⟩ := repr1 hk hd
      refine ⟨t.enc, s, told_ok ix, ?_, ?_, r2⟩
      · rw [e, decide_eq_true (by omega), pb, bB, pb, ittr]
      · obtain ⟨l, el⟩ := subs_tup t
        rw [el] at r1 ⊢
        exact r1
end
end KX
namespace KX
open PySem PySem.Spec PyProof.Rows L2 DL
noncomputable section
mutual
def dpt : D → Nat
  | .tup xs => dpl xs + 1
  | .lst xs => dpl xs + 1
  | .dic _ => 1
  | _ => 0
def dpl : List D → Nat
  | [] => 0
  | x :: xs => max (dpt x) (dpl xs)
end
theorem dpt_mem : ∀ {xs : List D}, ∀ x ∈ xs, dpt x ≤ dpl xs
  | [], _, h => nomatch h
  | x :: xs, y, hy => by
    simp only [dpl]
    rcases List.mem_cons.mp hy with e | e
    · subst e; exact Nat.le_max_left _ _
    · exact Nat.le_trans (dpt_mem y e) (Nat.le_max_right _ _)
theorem nums_d0 : ∀ xs : List D, nums ((xs.map fun p => D.int (dpt p : Nat)) ++ [.int 0]) = some ((xs.map fun p => ((dpt p : Nat) : Int)) ++ [0])
  | [] => rfl
  | x :: xs => by
    show (nums ((xs.map fun p => D.int (dpt p : Nat)) ++ [.int 0])).map _ = _
    rw [nums_d0 xs]
    rfl
theorem fold_dpl : ∀ (xs : List D) (a : Nat), ((xs.map fun p => ((dpt p : Nat) : Int)) ++ [0]).foldl max ((a : Nat) : Int) = ((max a (dpl xs) : Nat) : Int)
  | [], a => by show max ((a : Nat) : Int) 0 = _; simp only [dpl]; omega
  | x :: xs, a => by
    show ((xs.map fun p => ((dpt p : Nat) : Int)) ++ [0]).foldl max (max ((a : Nat) : Int) ((dpt x : Nat) : Int)) = _
    have e : max ((a : Nat) : Int) ((dpt x : Nat) : Int) = ((max a (dpt x) : Nat) : Int) := by omega
    rw [e, fold_dpl xs]
    simp only [dpl]
    congr 1
    omega
theorem max_d (xs : List D) : maxL (.lst ((xs.map fun p => D.int (dpt p : Nat)) ++ [.int 0])) = Pure.pure (.int (dpl xs : Nat)) := by
  show (match nums ((xs.map fun p => D.int (dpt p : Nat)) ++ [.int 0]) with | some (n :: ns) => Pure.pure (D.int (ns.foldl max n)) | _ => M.no) = _
  rw [nums_d0]
  cases xs with
  | nil => rfl
  | cons x xs =>
    show (Pure.pure (D.int (((xs.map fun p => ((dpt p : Nat) : Int)) ++ [0]).foldl max ((dpt x : Nat) : Int))) : M D) = _
    rw [fold_dpl]
    rfl
theorem nested_e : ∀ (n : Nat) (v : D), uni v = true → siz v ≤ 9000 → dpt v < n → g_l_nested n [.v v] = Pure.pure (.int (dpt v : Nat))
  | 0, _, _, _, h => absurd h (Nat.not_lt_zero _)
  | n + 1, v, hu, hz, hd => by
    show m_l_nested (g_l_nested n) v = _
    unfold m_l_nested
    have seq : ∀ xs : List D, unis xs = true → sizl xs ≤ 8999 → dpl xs < n → compF (fun _ => Pure.pure true) (fun p => g_l_nested n [.v p]) xs = Pure.pure (xs.map fun p => .int (dpt p : Nat)) := fun xs h1 h2 h3 =>
      comp_all (fun p => .int (dpt p : Nat)) xs fun p hp => nested_e n p (uni_mem h1 p hp) (by have := siz_mem p hp; omega) (by have := dpt_mem p hp; omega)
    have fin : ∀ xs : List D, sizl xs ≤ 8999 → mkL (xs.map fun p => D.int (dpt p : Nat)) = Pure.pure (.lst (xs.map fun p => D.int (dpt p : Nat))) := fun xs h => mkLe (by have := len_siz xs; rw [List.length_map, sizeLine_eq]; omega)
    have fad : ∀ xs : List D, sizl xs ≤ 8999 → addD (.lst (xs.map fun p => D.int (dpt p : Nat))) (.lst [.int 0]) = Pure.pure (.lst ((xs.map fun p => D.int (dpt p : Nat)) ++ [.int 0])) := fun xs h => add_l (by have := len_siz xs; simp; omega)
    have fe : ∀ k : Nat, (1 : Int) + ((k : Nat) : Int) = ((k + 1 : Nat) : Int) := fun k => by omega
    have z : ∀ {v : D} {n T : String} {b : Bool}, tyN v = some n → isB n T = b → isiD T v = Pure.pure (.bl b) := fun h1 h2 => by rw [isi_is _ h1, h2]
    cases v with
    | tup xs =>
      have h1 : unis xs = true := by simpa [uni] using hu
      simp only [siz] at hz
      simp only [dpt] at hd
      simp only [pb, asc, thB, thN, z (v := .tup xs) (n := "tuple") (T := "dict") (b := false) rfl (by decide), z (v := .tup xs) (n := "tuple") (T := "tuple") (b := true) rfl (by decide), bB, ntn, itfa, itF, it_t, seq xs h1 (by omega) (by omega), noE, fin xs (by omega), v0, v1, f1e, m1, fad xs (by omega), max_d, add_ii, dR, dpt, fe]
    | lst xs =>
      have h1 : unis xs = true := by simpa [uni] using hu
      simp only [siz] at hz
      simp only [dpt] at hd
      simp only [pb, asc, thB, thN, z (v := .lst xs) (n := "list") (T := "dict") (b := false) rfl (by decide), z (v := .lst xs) (n := "list") (T := "tuple") (b := false) rfl (by decide), z (v := .lst xs) (n := "list") (T := "list") (b := true) rfl (by decide), bB, ntn, ntf, itfa, itF, ittr, itT, it_l, seq xs h1 (by omega) (by omega), noE, fin xs (by omega), v0, v1, f1e, m1, fad xs (by omega), max_d, add_ii, dR, dpt, fe]
    | dic l =>
      simp only [pb, asc, thB, thN, z (v := .dic l) (n := "dict") (T := "dict") (b := true) rfl (by decide), bB, ittr, itT, thR, dR]
      rfl
    | non =>
      simp only [pb, asc, thB, thN, z (v := .non) (n := "NoneType") (T := "dict") (b := false) rfl (by decide), z (v := .non) (n := "NoneType") (T := "tuple") (b := false) rfl (by decide), z (v := .non) (n := "NoneType") (T := "list") (b := false) rfl (by decide), bB, ntf, itfa, itF, ittr, itT, thR, dR]
      rfl
    | int i =>
      simp only [pb, asc, thB, thN, z (v := .int i) (n := "int") (T := "dict") (b := false) rfl (by decide), z (v := .int i) (n := "int") (T := "tuple") (b := false) rfl (by decide), z (v := .int i) (n := "int") (T := "list") (b := false) rfl (by decide), bB, ntf, itfa, itF, ittr, itT, thR, dR]
      rfl
    | bl i =>
      simp only [pb, asc, thB, thN, z (v := .bl i) (n := "bool") (T := "dict") (b := false) rfl (by decide), z (v := .bl i) (n := "bool") (T := "tuple") (b := false) rfl (by decide), z (v := .bl i) (n := "bool") (T := "list") (b := false) rfl (by decide), bB, ntf, itfa, itF, ittr, itT, thR, dR]
      rfl
    | str i =>
      simp only [pb, asc, thB, thN, z (v := .str i) (n := "str") (T := "dict") (b := false) rfl (by decide), z (v := .str i) (n := "str") (T := "tuple") (b := false) rfl (by decide), z (v := .str i) (n := "str") (T := "list") (b := false) rfl (by decide), bB, ntf, itfa, itF, ittr, itT, thR, dR]
      rfl
    | _ => simp [uni] at hu
theorem uni_app : ∀ a b : List D, unis (a ++ b) = (unis a && unis b)
  | [], b => by simp [unis]
  | x :: a, b => by rw [List.cons_append]; simp only [unis]; rw [uni_app a b, Bool.and_assoc]
theorem siz_app : ∀ a b : List D, sizl (a ++ b) = sizl a + sizl b
  | [], b => by simp [sizl]
  | x :: a, b => by rw [List.cons_append]; simp only [sizl]; rw [siz_app a b]; omega
theorem dpl_app : ∀ a b : List D, dpl (a ++ b) = max (dpl a) (dpl b)
  | [], b => by simp [dpl]
  | x :: a, b => by rw [List.cons_append]; simp only [dpl]; rw [dpl_app a b]; omega
/-- good: of the universe, no bigger, no deeper -/
structure Gd (v : D) (S k : Nat) : Prop where
  u : uni v = true
  s : siz v ≤ S
  d : dpt v ≤ k
structure Gs (l : List D) (S k : Nat) : Prop where
  u : unis l = true
  s : sizl l ≤ S
  d : dpl l ≤ k
theorem Gd.mono {v : D} {S k S' k' : Nat} (h : Gd v S k) (a : S ≤ S') (b : k ≤ k') : Gd v S' k' := ⟨h.u, Nat.le_trans h.s a, Nat.le_trans h.d b⟩
theorem Gs.tup {l : List D} {S k : Nat} (h : Gs l S k) : Gd (.tup l) (S + 1) (k + 1) := ⟨by simpa [uni] using h.u, by have := h.s; simp only [siz]; omega, by have := h.d; simp only [dpt]; omega⟩
theorem Gs.lst {l : List D} {S k : Nat} (h : Gs l S k) : Gd (.lst l) (S + 1) (k + 1) := ⟨by simpa [uni] using h.u, by have := h.s; simp only [siz]; omega, by have := h.d; simp only [dpt]; omega⟩
theorem Gs.app {a b : List D} {S T k : Nat} (h : Gs a S k) (g : Gs b T k) : Gs (a ++ b) (S + T) k := ⟨by rw [uni_app, h.u, g.u]; rfl, by rw [siz_app]; have := h.s; have := g.s; omega, by rw [dpl_app]; have := h.d; have := g.d; omega⟩
theorem Gs.mono {v : List D} {S k S' k' : Nat} (h : Gs v S k) (a : S ≤ S') (b : k ≤ k') : Gs v S' k' := ⟨h.u, Nat.le_trans h.s a, Nat.le_trans h.d b⟩
theorem Gs.one {v : D} {S k : Nat} (h : Gd v S k) : Gs [v] S k := ⟨by simp [unis, h.u], by have := h.s; simp only [sizl]; omega, by have := h.d; simp only [dpl]; omega⟩
theorem Gs.cons {v : D} {l : List D} {S T k : Nat} (h : Gd v S k) (g : Gs l T k) : Gs (v :: l) (S + T) k := (Gs.one h).app g
end
end KX
namespace KX
open PySem PySem.Spec PyProof.Rows L2 DL
noncomputable section
def ODD : List D := [.non, .int 0, .str "", .str "name", .str "all", .str "A", .str "ninechars", .tup [.str "all"], .tup [.str "none"], .tup [], .lst [], .dic [], .bl true, .tup [.str "name", .str "x"], .str "and"]
theorem odd_ok : ∀ d ∈ ODD, (uni d && decide (siz d ≤ 3) && decide (dpt d ≤ 1)) = true := by decide +kernel
theorem odd_gd {d : D} (h : d ∈ ODD) : Gd d 3 1 := by
  have := odd_ok d h
  simp only [Bool.and_eq_true, decide_eq_true_eq] at this
  exact ⟨this.1.1, this.1.2, this.2⟩
theorem st_gd {s : Str} (h : s ∈ TX) (k : Nat) : Gd (.str s) 1 k := ⟨by simp [uni, h], Nat.le_refl _, Nat.zero_le _⟩
theorem cut_fr {α : Type} (xs : List α) (n : Nat) : cutL xs (some (n : Int)) none = xs.drop n := by
  have e1 : HT.sIx xs.length 0 (some (n : Int)) = min n xs.length := HT.sIx_nat _ _ n
  have e2 : HT.sIx xs.length xs.length none = xs.length := rfl
  unfold cutL
  rw [e1, e2]
  by_cases h : n ≤ xs.length
  · rw [Nat.min_eq_left h, List.take_of_length_le (by rw [List.length_drop]; omega)]
  · rw [Nat.min_eq_right (by omega), List.drop_of_length_le (Nat.le_refl _), List.drop_of_length_le (by omega)]
    simp
theorem cut_l1 {α : Type} (xs : List α) (h : 0 < xs.length) : cutL xs (some (-1)) none = xs.drop (xs.length - 1) := by
  have e1 : HT.sIx xs.length 0 (some (-1)) = xs.length - 1 := by
    show (if (-1 : Int) < 0 then ((-1 : Int) + (xs.length : Int)).toNat else min (-1 : Int).toNat xs.length) = _
    rw [if_pos (by decide)]
    omega
  have e2 : HT.sIx xs.length xs.length none = xs.length := rfl
  unfold cutL
  rw [e1, e2, List.take_of_length_le (by rw [List.length_drop]; omega)]
theorem sl_to (xs : List D) (n : Nat) : sliceD (.tup xs) none (some ((n : Nat) : Int)) = Pure.pure (.tup (xs.take n)) := by
  rw [← cut_to]; exact Eq.trans rfl rfl
theorem sl_fr (xs : List D) (n : Nat) : sliceD (.tup xs) (some ((n : Nat) : Int)) none = Pure.pure (.tup (xs.drop n)) := by
  rw [← cut_fr]; exact Eq.trans rfl rfl
theorem sl_l1 (xs : List D) (h : 0 < xs.length) : sliceD (.tup xs) (some (-1)) none = Pure.pure (.tup (xs.drop (xs.length - 1))) := by
  rw [← cut_l1 xs h]; exact Eq.trans rfl rfl
theorem ix_at (xs : List D) (n : Nat) (h : n < xs.length) : ixD (.tup xs) (.int ((n : Nat) : Int)) = Pure.pure xs[n] := by
  have e : atI xs ((n : Nat) : Int) = some xs[n] := by
    unfold atI ixN
    rw [if_pos (by omega), if_pos (by omega)]
    simp [h]
  show M.some (atI xs ((n : Nat) : Int)) = _
  rw [e]; exact Eq.trans rfl rfl
theorem gs_take {l : List D} {S k : Nat} (h : Gs l S k) (n : Nat) : Gs (l.take n) S k := by
  have e := List.take_append_drop n l
  have u := h.u; have s := h.s; have d := h.d
  rw [← e, uni_app, Bool.and_eq_true] at u
  rw [← e, siz_app] at s
  rw [← e, dpl_app] at d
  exact ⟨u.1, by omega, by omega⟩
theorem gs_drop {l : List D} {S k : Nat} (h : Gs l S k) (n : Nat) : Gs (l.drop n) S k := by
  have e := List.take_append_drop n l
  have u := h.u; have s := h.s; have d := h.d
  rw [← e, uni_app, Bool.and_eq_true] at u
  rw [← e, siz_app] at s
  rw [← e, dpl_app] at d
  exact ⟨u.2, by omega, by omega⟩
theorem split_at (l : List D) (n : Nat) (h : n < l.length) : l = l.take n ++ (l[n] :: l.drop (n + 1)) := by
  conv => lhs; rw [← List.take_append_drop n l, List.drop_eq_getElem_cons h]
theorem siz_split (l : List D) (n : Nat) (h : n < l.length) : sizl (l.take n) + siz l[n] + sizl (l.drop (n + 1)) = sizl l := by
  have := congrArg sizl (split_at l n h)
  rw [siz_app] at this
  simp only [sizl] at this
  omega
theorem tx_w : ("not" : Str) ∈ TX ∧ ("x" : Str) ∈ TX ∧ ("and" : Str) ∈ TX ∧ ("or" : Str) ∈ TX ∧ ("name" : Str) ∈ TX ∧ ("u" : Str) ∈ TX := by decide +kernel
theorem neg1 : negD (.int 1) = Pure.pure (.int (-1)) := Eq.trans rfl rfl
theorem adl {a b : List D} (h : a.length + b.length ≤ 9000) : addD (.lst a) (.lst b) = Pure.pure (.lst (a ++ b)) := add_l h
theorem bent_w : ∀ (n : Nat) (v : D) (k : Int) (P : Pot), uni v = true → siz v ≤ 3100 → dpt v < n → PO k P → k + 4 * n < 2 ^ 38 → wp (g_l_bent n [.p, .v v]) P fun d P' => Gd d (2 * siz v + 6) (dpt v + 1) ∧ PO (k + 4 * n) P'
  | 0, _, _, _, _, _, h, _, _ => absurd h (Nat.not_lt_zero _)
  | n + 1, v, k, P, hu, hz, hd, po, hk => by
    show wp (m_l_bent (g_l_bent n) v) P _
    unfold m_l_bent
    have m15 : mkL ODD = Pure.pure (.lst ODD) := mkLe (by show 15 ≤ sizeLine; rw [sizeLine_eq]; omega)
    unfold ODD at m15
    have leaf : wp (addD (.lst ODD) (.lst [.str "not", .str "x", v]) >>= fun x => g_l_pick [.p, .v x] >>= fun d => doneF (α := Unit) (.rt d)) P fun d P' => Gd d (2 * siz v + 6) (dpt v + 1) ∧ PO (k + 4 * (n + 1 : Nat)) P' := by
      rw [adl (by show 15 + 3 ≤ 9000; omega), pb]
      refine wp_bind (wp_mono (pick_w po (by omega) (by show 0 < 18; decide) (by show 18 < 4000; decide)) fun d P2 ⟨hm, p2⟩ => ?_)
      rw [dR]
      refine wp_pure ⟨?_, p2.mono (by omega)⟩
      rcases List.mem_append.mp hm with z | z
      · exact (odd_gd z).mono (by have := siz_pos v; omega) (by omega)
      · simp only [List.mem_cons, List.not_mem_nil, or_false] at z
        rcases z with rfl | rfl | rfl
        · exact (st_gd tx_w.1 _).mono (by omega) (Nat.le_refl _)
        · exact (st_gd tx_w.2.1 _).mono (by omega) (Nat.le_refl _)
        · exact ⟨hu, by omega, by omega⟩
    have m3' : ∀ a b c : D, mkL [a, b, c] = Pure.pure (.lst [a, b, c]) := fun a b c => mkLe (line9 (by simp))
    simp only [pb, asc, thB, thN, v0, v1, t0, t1, t2, m0, m15, m3']
    rcases no_tup hu with ⟨xs, rfl⟩ | ⟨e1, _⟩
    · have it : isiD "tuple" (.tup xs) = Pure.pure (.bl true) := isi_is "tuple" (n := "tuple") rfl
      simp only [it, pb, bB, ntn, itfa, itF, eqx_nilT]
      cases xs with
      | nil =>
        simp only [List.isEmpty_nil, ittr, itT, thR, pb, asc, thB]
        exact leaf
      | cons x xs =>
        simp only [List.isEmpty_cons, itfa, itF, thN]
        have hy : 0 < (x :: xs).length := by simp
        generalize x :: xs = ys at hu hz hd leaf it hy ⊢
        have g0 : Gs ys (sizl ys) (dpl ys) := ⟨by simpa [uni] using hu, Nat.le_refl _, Nat.le_refl _⟩
        have gv : Gd (.tup ys) (sizl ys + 1) (dpl ys + 1) := g0.tup
        have ls := len_siz ys
        simp only [siz, dpt] at hz hd ⊢
        have lg : ((ys.length : Nat) : Int).natAbs.log2 < 9000 := by
          rw [Int.natAbs_natCast]
          exact Nat.lt_trans ((Nat.log2_lt (by omega)).mpr (show ys.length < 2 ^ 12 by omega)) (by decide)
        simp only [f1e, le_t, asc, thB, pb]
        refine wp_bind (wp_mono (bit_w po (by omega) (by omega) lg) fun d P1 ⟨a, ed, a0, a1, p1⟩ => ?_)
        subst ed
        refine wp_bind (wp_mono (bit_w p1 (by omega) (by decide) l8) fun d P2 ⟨lot, ed, r0, r1, p2⟩ => ?_)
        subst ed
        obtain ⟨i, rfl⟩ : ∃ i : Nat, a = (i : Int) := ⟨a.toNat, by omega⟩
        have hi : i < ys.length := by omega
        have ei : ((i : Nat) : Int) + 1 = ((i + 1 : Nat) : Int) := by omega
        have tw : ∀ a b : D, two (fun d e => (Pure.pure (.nx (d, e)) : M (Fl (D × D)))) [a, b] = Pure.pure (.nx (a, b)) := fun a b => Eq.trans rfl rfl
        have hz' := siz_split ys i hi
        simp only [tw, thN, lt_int, bB, pb, asc, thB]
        by_cases c : lot < 5
        · simp only [decide_eq_true c, ittr, itT, pb, asc, thB, part_e, sl_to, ix_at _ _ hi]
          have hm : ys[i] ∈ ys := List.getElem_mem hi
          have dm := dpt_mem ys[i] hm
          refine wp_bind (wp_mono (bent_w n ys[i] (k + 1 + 1) P2 (uni_mem g0.u _ hm) (by have := siz_mem ys[i] hm; omega) (by omega) p2 (by omega)) fun b P3 ⟨gb, p3⟩ => ?_)
          have l1 := List.length_take_le i ys
          have a1 : addD (.tup (ys.take i)) (.tup [b]) = Pure.pure (.tup (ys.take i ++ [b])) := add_t (by simp; omega)
          have a2 : addD (.tup (ys.take i ++ [b])) (.tup (ys.drop (i + 1))) = Pure.pure (.tup (ys.take i ++ [b] ++ ys.drop (i + 1))) := add_t (by simp; omega)
          simp only [a1, add_ii, ei, part_e, pb, sl_fr, a2, thR, dR]
          refine wp_pure ⟨⟨?_, ?_, ?_⟩, p3.mono (by omega)⟩
          · simp only [uni]
            rw [uni_app, uni_app, (gs_take g0 i).u, (gs_drop g0 (i + 1)).u]
            simp [unis, gb.u]
          · simp only [siz]
            rw [siz_app, siz_app]
            have := gb.s
            simp only [sizl]
            omega
          · simp only [dpt]
            rw [dpl_app, dpl_app]
            have := gb.d
            have := (gs_take g0 i).d
            have := (gs_drop g0 (i + 1)).d
            simp only [dpl]
            omega
        · have l1 : (ys.take i).length + (ys.drop (i + 1)).length ≤ 9000 := by rw [List.length_take, List.length_drop]; omega
          have l2 : ys.length + (ys.drop (ys.length - 1)).length ≤ 9000 := by rw [List.length_drop]; omega
          have m6 : ∀ a b c d e f : D, mkL [a, b, c, d, e, f] = Pure.pure (.lst [a, b, c, d, e, f]) := fun a b c d e f => mkLe (line9 (by simp))
          have a9 : ∀ a b c d e f g h i : D, addD (.lst [a, b, c, d, e, f]) (.lst [g, h, i]) = Pure.pure (.lst [a, b, c, d, e, f, g, h, i]) := fun a b c d e f g h i => adl (by simp)
          simp only [decide_eq_false c, itfa, itF, thN, pb, asc, part_e, sl_to, add_ii, ei, sl_fr, add_t l1, neg1, sl_l1 ys hy, add_t l2, li_t, f1e, m6, t3, a9]
          refine wp_bind (wp_mono (pick_w p2 (by omega) (by simp) (by simp)) fun d P3 ⟨hm, p3⟩ => ?_)
          rw [dR]
          refine wp_pure ⟨?_, p3.mono (by omega)⟩
          have sN := st_gd tx_w.1 (dpl ys + 1)
          have sA := st_gd tx_w.2.2.1 (dpl ys + 1)
          have sO := st_gd tx_w.2.2.2.1 (dpl ys + 1)
          have nx : Gd (.tup [.str (Str.ofString "name"), .str (Str.ofString "x")]) 3 (dpl ys + 1) := ((Gs.cons (st_gd tx_w.2.2.2.2.1 (dpl ys)) (Gs.one (st_gd tx_w.2.1 (dpl ys)))).tup).mono (by omega) (by omega)
          have nu : Gd (.tup [.str (Str.ofString "name"), .str (Str.ofString "u")]) 3 (dpl ys + 1) := ((Gs.cons (st_gd tx_w.2.2.2.2.1 (dpl ys)) (Gs.one (st_gd tx_w.2.2.2.2.2 (dpl ys)))).tup).mono (by omega) (by omega)
          simp only [List.mem_cons, List.not_mem_nil, or_false] at hm
          rcases hm with rfl | rfl | rfl | rfl | rfl | rfl | rfl | rfl | rfl
          · exact (((gs_take g0 i).app (gs_drop g0 (i + 1))).tup).mono (by omega) (by omega)
          · exact ((g0.app (gs_drop g0 _)).tup).mono (by omega) (by omega)
          · exact g0.lst.mono (by omega) (by omega)
          · exact (Gs.one gv).tup.mono (by omega) (by omega)
          · exact (Gs.cons sN (Gs.one gv)).tup.mono (by omega) (by omega)
          · exact (Gs.cons sA (Gs.one gv)).tup.mono (by omega) (by omega)
          · exact (Gs.cons sN (Gs.cons gv (Gs.one gv))).tup.mono (by omega) (by omega)
          · exact (Gs.cons sO (Gs.cons gv (Gs.one nx))).tup.mono (by omega) (by omega)
          · exact (Gs.cons sA (Gs.cons nu (Gs.one gv))).tup.mono (by omega) (by omega)
    · simp only [e1, pb, bB, ntf, ittr, itT, thR, asc, thB]
      exact leaf
end
end KX
namespace KX
open PySem PySem.Spec PyProof.Rows L2 DL
noncomputable section
theorem dpt_enc : ∀ t : Tr, dpt t.enc = t.dep
  | .all => by simp [Tr.enc, dpt, dpl, Tr.dep]
  | .non => by simp [Tr.enc, dpt, dpl, Tr.dep]
  | .nam w => by simp [Tr.enc, dpt, dpl, Tr.dep]
  | .nt t => by simp [Tr.enc, dpt, dpl, Tr.dep, dpt_enc t]
  | .bin true a b => by simp [Tr.enc, dpt, dpl, Tr.dep, dpt_enc a, dpt_enc b]
  | .bin false a b => by simp [Tr.enc, dpt, dpl, Tr.dep, dpt_enc a, dpt_enc b]
def nots : Nat → Tr → Tr
  | 0, t => t
  | n + 1, t => nots n (.nt t)
theorem nots_dep : ∀ (n : Nat) (t : Tr), (nots n t).dep = t.dep + n
  | 0, _ => rfl
  | n + 1, t => by show (nots n (.nt t)).dep = _; rw [nots_dep n]; simp only [Tr.dep]; omega
theorem nots_ok : ∀ (n : Nat) (t : Tr), t.ok → (nots n t).ok
  | 0, _, h => h
  | n + 1, t, h => nots_ok n (.nt t) h
theorem nots_e {b : D → D → M (Fl D)} (hb : ∀ (t : Tr) d, b t.enc d = Pure.pure (.nx (Tr.nt t).enc)) : ∀ (ds : List D) (t : Tr), forF b ds t.enc = Pure.pure (.nx (nots ds.length t).enc)
  | [], t => f0 b _
  | d :: ds, t => by
    unfold forF
    rw [hb, pb]
    exact nots_e hb ds (.nt t)
theorem fours : ∀ w ∈ (["q", "r", "s", "t"] : List Str), w ∈ five := by decide +kernel
theorem mt4 (a b c d : D) : mkT [a, b, c, d] = Pure.pure (.tup [a, b, c, d]) := mkTe (line9 (by simp))
theorem wide_w {W : List Str} (hW : Words W) (h0 : 0 < W.length) {k : Int} {P : Pot} (po : PO k P) (hk : k < 2 ^ 37) : wp (g_l_wide [.p, .v (tp W)]) P fun d P' => (∃ t : Tr, d = t.enc ∧ t.ok ∧ t.dep ≤ 9) ∧ PO (k + 220) P' := by
  show wp (m_l_wide (tp W)) P _
  unfold m_l_wide
  simp only [pb, asc, thB, thN]
  refine wp_bind (wp_mono (bit_w po (by omega) (by decide) (by decide)) fun d P1 ⟨lot, ed, r0, r1, p1⟩ => ?_)
  subst ed
  have g6 : gg 6 = 191 := rfl
  have g3 : gg 3 = 23 := rfl
  simp only [gt_int, pb, bB, asc, thB]
  by_cases c1 : lot > 1
  · have e1 : decide ((1 : Int) < lot) = true := decide_eq_true c1
    simp only [e1, ittr, itT, pb, asc, thB]
    refine wp_bind (wp_mono (tree_w hW h0 6 14 (k + 1) P1 (by omega) p1 (by rw [g6]; omega)) fun d P2 ⟨t, ed, hd, p2⟩ => ?_)
    subst ed
    have z0 : (lot == 0) = false := by simp; omega
    have z1 : (lot == 1) = false := by simp; omega
    simp only [thN, eq_int, z0, z1, pb, bB, itfa, itF, asc, thB, dR]
    refine wp_pure ⟨⟨t, rfl, hd.ok, by have := hd.dep; omega⟩, p2.mono (by rw [g6]; omega)⟩
  · have e1 : decide ((1 : Int) < lot) = false := decide_eq_false c1
    simp only [e1, itfa, itF, pb, asc, thB]
    refine wp_bind (wp_mono (tree_w hW h0 3 14 (k + 1) P1 (by omega) p1 (by rw [g3]; omega)) fun d P2 ⟨t, ed, hd, p2⟩ => ?_)
    subst ed
    rw [g3] at p2
    have td := hd.dep
    by_cases c0 : lot = 0
    · subst c0
      have z0 : ((0 : Int) == 0) = true := rfl
      have z1 : ((0 : Int) == 1) = false := rfl
      simp only [thN, eq_int, z0, z1, pb, bB, ittr, itT, asc, thB]
      refine wp_bind (wp_mono (bit_w p2 (by omega) (by decide) (by decide)) fun d P3 ⟨r, ed, q0, q1, p3⟩ => ?_)
      subst ed
      have lr := rngs_len (j := 3 + r) (by omega)
      simp only [add_ii, pb, v0, v1, rng_e (j := 3 + r) ⟨by omega, by omega⟩, asc, thB, t2, thN]
      rw [nots_e (b := fun a53 l_turn54 => Pure.pure (.nx (.tup [.str (Str.ofString "not"), a53]))) (fun t d => rfl)]
      simp only [pb, thN, itfa, itF, thR, dR, asc, thB]
      exact wp_pure ⟨⟨_, rfl, nots_ok _ _ hd.ok, by rw [nots_dep, lr]; omega⟩, p3.mono (by omega)⟩
    · have c2 : lot = 1 := by omega
      subst c2
      have z0 : ((1 : Int) == 0) = false := rfl
      have z1 : ((1 : Int) == 1) = true := rfl
      simp only [thN, eq_int, z0, z1, pb, bB, itfa, itF, ittr, itT, asc, thB, v0, v1, mt4]
      refine wp_bind (wp_mono (bit_w p2 (by omega) (by decide) (by decide)) fun d P3 ⟨r, ed, q0, q1, p3⟩ => ?_)
      subst ed
      obtain ⟨j, rfl⟩ : ∃ j : Nat, r = (j : Int) := ⟨r.toNat, by omega⟩
      have ej : (1 : Int) + (j : Int) = ((j + 1 : Nat) : Int) := by omega
      simp only [add_ii, pb, ej, part_e, sl_to, it_t, m2, t2, thT, thN]
      refine wp_bind (wp_then (wp_mono (wp_for (fun (i : Nat) (a : D) P => ∃ t : Tr, a = t.enc ∧ t.ok ∧ t.dep ≤ 4 + i ∧ PO (k + 30 + (i : Nat)) P) 4 _ 0 t.enc P3 (by rw [List.length_take]; simp; omega) ⟨t, rfl, hd.ok, by omega, p3.mono (by omega)⟩ fun i a P hi d hm ⟨t, ea, ok, dp, p⟩ => ?_) fun f P' ⟨a', e, t, ea, ok, dp, p⟩ => ⟨a', e, ?_⟩))
      · subst ea
        have hd4 : d ∈ [D.str (Str.ofString "q"), D.str (Str.ofString "r"), D.str (Str.ofString "s"), D.str (Str.ofString "t")] := List.mem_of_mem_take hm
        obtain ⟨w, hw, rfl⟩ : ∃ w, w ∈ (["q", "r", "s", "t"] : List Str) ∧ d = .str w := by
          simp only [List.mem_cons, List.not_mem_nil, or_false] at hd4
          rcases hd4 with rfl | rfl | rfl | rfl
          · exact ⟨_, by simp, rfl⟩
          · exact ⟨_, by simp, rfl⟩
          · exact ⟨_, by simp, rfl⟩
          · exact ⟨_, by simp, rfl⟩
        have hw5 := fours w hw
        refine wp_bind (wp_mono (pick_w p (by omega) (by simp) (by simp)) fun d P4 ⟨hm, p4⟩ => ?_)
        simp only [t3, pb]
        simp only [List.mem_cons, List.not_mem_nil, or_false] at hm
        rcases hm with rfl | rfl
        · exact wp_pure ⟨_, rfl, .bin true (.nam w) t, rfl, ⟨hw5, ok⟩, by simp only [Tr.dep]; omega, p4.mono (by omega)⟩
        · exact wp_pure ⟨_, rfl, .bin false (.nam w) t, rfl, ⟨hw5, ok⟩, by simp only [Tr.dep]; omega, p4.mono (by omega)⟩
      · subst ea
        refine wp_pure ?_
        rw [dR]
        have l4 : (List.take (j + 1) [D.str (Str.ofString "q"), D.str (Str.ofString "r"), D.str (Str.ofString "s"), D.str (Str.ofString "t")]).length ≤ 4 := by rw [List.length_take]; simp; omega
        exact wp_pure ⟨⟨t, rfl, ok, by omega⟩, p.mono (by omega)⟩
end
end KX
namespace KX
open PySem PySem.Spec PyProof.Rows L2 DL
noncomputable section
theorem all_nx {b : Unit → D → M (Fl Unit)} : ∀ {ds : List D}, (∀ d ∈ ds, b () d = Pure.pure (.nx ())) → forF b ds () = Pure.pure (.nx ())
  | [], _ => f0 b _
  | d :: ds, h => by
    unfold forF
    rw [h d List.mem_cons_self, pb]
    exact all_nx fun x hx => h x (List.mem_cons_of_mem _ hx)
def TALL : Tr := nots 7 (.nam "x")
theorem x_five : ("x" : Str) ∈ five := by decide +kernel
theorem tall_ok : TALL.ok := nots_ok 7 _ x_five
theorem tall_dep : TALL.dep = 8 := nots_dep 7 _
theorem tall_no : treeB 8 (Tr.nt TALL).enc = false := by decide +kernel
theorem tall_nm : (nms TALL).length ≤ 4 := by
  have h : TALL.names = [("x" : Str)] := rfl
  unfold nms
  rw [h]
  have := SX.srtS_length (l := [("x" : Str)])
  simp only [List.length_cons, List.length_nil] at this
  omega
theorem math (ns : List Int) (h1 : ns.length ≤ 63) (h2 : ∀ z ∈ ns, Builtin.Int.intBits z ≤ 1048576) : g_law [.v (.scr ns)] none = .ok (.bl true) none := by
  suffices h : wp (m_law (.scr ns)) none fun d P => d = .bl true ∧ P = none by
    obtain ⟨d, P, e, rfl, rfl⟩ := h
    exact e
  unfold m_law
  have m5 : ∀ a b c d e : D, mkL [a, b, c, d, e] = Pure.pure (.lst [a, b, c, d, e]) := fun a b c d e => mkLe (line9 (by simp))
  have mn1 : ∀ a : D, mkN [a] = Pure.pure [a] := fun a => mkN_e (line9 (by simp))
  simp only [pb, asc, thB, thN, v0, v1, f1e, f2e, len_scr, min_e, max_e]
  generalize hN : (if (if ((ns.length : Nat) : Int) < 6 then ((ns.length : Nat) : Int) else 6) > 1 then (if ((ns.length : Nat) : Int) < 6 then ((ns.length : Nat) : Int) else 6) else 1) = N
  have N0 : 1 ≤ N ∧ N ≤ 8 := by rw [← hN]; split <;> split <;> omega
  rw [rng_e ⟨by omega, by omega⟩, pb]
  refine wp_bind (wp_then (wp_mono (wp_for (fun _ _ P => P = none) (rngs 0 N).length (rngs 0 N) 0 () none (by omega) rfl fun i a P hi d hd hI => ?_) fun f P' ⟨a', e, q⟩ => ⟨a', e, ?_⟩))
  · subst hI
    obtain ⟨j, hj, rfl⟩ := List.mem_map.mp hd
    have hj2 : (0 : Int) ≤ 0 + (j : Nat) ∧ (0 : Int) + (j : Nat) < 8 := by
      have := List.mem_range.mp hj
      omega
    generalize hat : (0 : Int) + (j : Nat) = at' at hj2
    obtain ⟨pa, px, pe, ha, hx⟩ := pot_e (ns := ns) hj2.1 (by omega)
    rw [pe, pb]
    refine wp_withPot ?_
    have p0 : PO 0 (some [.int pa, .int px, .int 0]) := ⟨pa, px, 0, rfl, ha, hx, Int.le_refl _, Int.le_refl _⟩
    simp only [pb, asc, thB, m5]
    refine draw_w (k := 0) (by omega) p0 fun W P1 hW hW0 p1 => ?_
    refine wp_bind (wp_mono (wide_w hW hW0 p1 (by omega)) fun d P2 ⟨⟨t, ed, ok, dp⟩, p2⟩ => ?_)
    subst ed
    have r18 : rng1 [.v (.int 18)] = Pure.pure (rngs 0 18) := rng_e ⟨by omega, by omega⟩
    rw [mn1, pb, r18, pb]
    have te := siz_enc t
    have tp9 : 2 ^ t.dep ≤ 2 ^ 9 := Nat.pow_le_pow_right (by decide) dp
    have dt := dpt_enc t
    refine wp_then (wp_mono (wp_for (fun (i : Nat) (a : List D) P => a.length ≤ 1 + i ∧ (∀ d ∈ a, Gd d 6200 12) ∧ PO (300 + 120 * (i : Nat)) P) 18 (rngs 0 18) 0 [t.enc] P2 (by decide) ⟨by simp, fun d hd => by rw [List.mem_singleton.mp hd]; exact ⟨uni_enc t ok, by omega, by omega⟩, p2.mono (by omega)⟩ fun i a P hi d hd ⟨la, ga, p⟩ => ?_) fun f P' ⟨a', e, la, ga, p⟩ => ⟨a', e, ?_⟩)
    · obtain ⟨j, hj, rfl⟩ := List.mem_map.mp hd
      have put : ∀ (b : D) (P3 : Pot), Gd b 6200 12 → PO (300 + 120 * ((i + 1 : Nat) : Int)) P3 → wp (thenR (if a.length < sizeLine then (Pure.pure (.nx b) : M (Fl D)) else M.no) fun d75 => (Pure.pure (.nx (a ++ [d75])) : M (Fl (List D)))) P3 fun f P' => ∃ a', f = .nx a' ∧ (a'.length ≤ 1 + (i + 1) ∧ (∀ d ∈ a', Gd d 6200 12) ∧ PO (300 + 120 * ((i + 1 : Nat) : Int)) P') := fun b P3 g q => by
        rw [if_pos (by rw [sizeLine_eq]; omega), thN]
        refine wp_pure ⟨_, rfl, by simp; omega, fun d hd => ?_, q⟩
        rcases List.mem_append.mp hd with z | z
        · exact ga d z
        · rw [List.mem_singleton.mp z]; exact g
      refine wp_bind (wp_mono (bent_w 14 t.enc (300 + 120 * (i : Nat)) P (uni_enc t ok) (by omega) (by omega) p (by omega)) fun b P3 ⟨gb, p3⟩ => ?_)
      have gs := gb.s
      have gd := gb.d
      simp only [lt_int, pb, bB]
      by_cases c : (0 : Int) + (j : Nat) < 9
      · simp only [decide_eq_true c, ittr, itT, pb]
        exact put b P3 (gb.mono (by omega) (by omega)) (p3.mono (by omega))
      · simp only [decide_eq_false c, itfa, itF, pb]
        refine wp_bind (wp_mono (bent_w 14 b _ P3 gb.u (by omega) (by omega) p3 (by omega)) fun b2 P4 ⟨gb2, p4⟩ => ?_)
        exact put b2 P4 (gb2.mono (by omega) (by omega)) (p4.mono (by omega))
    · have l18 : (rngs 0 18).length = 18 := rfl
      rw [l18] at la p
      refine wp_bind (wp_mono (wide_w hW hW0 p (by omega)) fun d P3 ⟨⟨u, ed, uk, ud⟩, p3⟩ => ?_)
      subst ed
      refine wp_bind (wp_mono (wide_w hW hW0 p3 (by omega)) fun d P4 ⟨⟨u2, ed, uk2, ud2⟩, p4⟩ => ?_)
      subst ed
      have gu : ∀ u : Tr, u.ok → u.dep ≤ 9 → Gd u.enc 6200 12 := fun u k h => by
        have := siz_enc u
        have : 2 ^ u.dep ≤ 2 ^ 9 := Nat.pow_le_pow_right (by decide) h
        exact ⟨uni_enc u k, by omega, by rw [dpt_enc]; omega⟩
      have al : addL (.lst a') (.lst [u.enc, u2.enc]) = Pure.pure (a' ++ [u.enc, u2.enc]) := if_pos (by rw [sizeLine_eq]; simp; omega)
      have gall : ∀ d ∈ a' ++ [u.enc, u2.enc], Gd d 6200 12 := fun d hd => by
        rcases List.mem_append.mp hd with z | z
        · exact ga d z
        · simp only [List.mem_cons, List.not_mem_nil, or_false] at z
          rcases z with rfl | rfl
          · exact gu u uk ud
          · exact gu u2 uk2 ud2
      have lall : (a' ++ [u.enc, u2.enc]).length ≤ 21 := by simp; omega
      generalize hL : a' ++ [u.enc, u2.enc] = L at al gall lall
      have cp : compF (fun l_one78 => g_l_nested 14 [.v l_one78] >>= fun x => ltD x (.int 11) >>= boolD) (fun l_one78 => Pure.pure l_one78) L = Pure.pure (L.filter fun d => decide (((dpt d : Nat) : Int) < 11)) := by
        have := comp_pure (t := fun l_one78 => g_l_nested 14 [.v l_one78] >>= fun x => ltD x (.int 11) >>= boolD) (e := fun l_one78 => Pure.pure l_one78) (fun d => decide (((dpt d : Nat) : Int) < 11)) (fun d => d) L (fun d hd => by
          have g := gall d hd
          rw [nested_e 14 d g.u (by have := g.s; omega) (by have := g.d; omega), pb, lt_int, pb, bB]) fun _ _ _ => rfl
        rw [this, List.map_id']
      have mf : mkL (L.filter fun d => decide (((dpt d : Nat) : Int) < 11)) = Pure.pure (.lst (L.filter fun d => decide (((dpt d : Nat) : Int) < 11))) := mkLe (Nat.le_trans (List.length_filter_le _ _) (by rw [sizeLine_eq]; omega))
      rw [m2, pb, al, pb, it_l, pb, cp, noE, pb, mf, pb, it_l, pb]
      rw [all_nx fun v hv => by
        have g := gall v (List.mem_filter.mp hv).1
        obtain ⟨d, s, a1, a2, a3, a4⟩ := agree g.u (by have := g.s; omega)
        have key : ∀ {β : Type} (K : D → M β), (g_l_is_tree [.v v] >>= fun x => boolD x >>= fun x => (if x = true then Pure.pure v else Pure.pure .non) >>= K) = K d := fun K => by
          have z := congrArg (· >>= K) a2
          simp only [asc, pb] at z
          exact z
        rw [a1, pb, a3, pb, key, a3, pb, ne_same a4, pb, bB, pb, itfa, thN]]
      rw [thN]
      refine wp_pure ⟨?_, (), rfl, True.intro⟩
      obtain ⟨_, _, _, e, _⟩ := p4
      rw [e]
      exact fun z => nomatch z
  · subst q
    have r7 : rng1 [.v (.int 7)] = Pure.pure (rngs 0 7) := rng_e ⟨by omega, by omega⟩
    have l7 : (rngs 0 7).length = 7 := rfl
    have ix := init_x tall_ok (by rw [tall_dep]; omega)
    rw [if_neg (by have := tall_nm; omega)] at ix
    have td := told_ok ix
    have tb := told_bad (init_no (v := (Tr.nt TALL).enc) (uni_enc _ tall_ok) (by
      have := siz_enc (Tr.nt TALL)
      have e : (Tr.nt TALL).dep = 9 := by simp only [Tr.dep]; rw [tall_dep]
      rw [e] at this
      omega) tall_no)
    have nm : (.tup [.str (Str.ofString "name"), .str (Str.ofString "x")] : D) = (Tr.nam "x").enc := rfl
    have sh := shaped_py tall_ok (by rw [tall_dep]; omega)
    have eqt : eqD TALL.enc TALL.enc = Pure.pure (.bl true) := by
      rw [eq_enc tall_ok tall_ok (by rw [tall_dep]; omega) (by rw [tall_dep]; omega), py_refl tall_ok]
    have en : eqD (.lst [.bl true, .non]) (.lst [.bl true, .non]) = Pure.pure (.bl true) := by
      show (if SeqAt.shaped (.list [.bool true, .none]) = true ∧ SeqAt.shaped (.list [.bool true, .none]) = true then Pure.pure (D.bl (PyData.eqv (.list [.bool true, .none]) (.list [.bool true, .none]))) else M.no) = _
      rw [if_pos ⟨by decide +kernel, by decide +kernel⟩]
      rfl
    simp only [pb, asc, thB, thN, v0, v1, t2, r7, nm]
    rw [nots_e (b := fun a53 l_turn54 => Pure.pure (.nx (.tup [.str (Str.ofString "not"), a53]))) (fun t d => rfl), l7]
    have eT : (nots 7 (.nam "x")).enc = TALL.enc := rfl
    have eN : (.tup [.str (Str.ofString "not"), TALL.enc] : D) = (Tr.nt TALL).enc := rfl
    rw [eT]
    simp only [pb, asc, thB, thN, v0, v1, t2, td, eqt, eN, tb, m2, en, dR]
    refine wp_pure ?_
    rw [dR]
    exact wp_pure ⟨rfl, rfl⟩
end
end KX
namespace KX
open PySem PySem.Spec PyProof.Rows L2 DL
noncomputable section
set_option maxHeartbeats 0 in
theorem all_mk {K : PySem.W.Frag} {w : World} {h : Heap} {mg : Str → Option Value} {fa : Addr} (X : K.In h) (G : h.Ns mainGlobals mg) (hfa : mg "law" = some (.ref fa))
    {Y_Formula f0 f1 f2 f3 f4 f5 f6 p6 f7 f8 f9 f10 f11 f12 f13 f14 f15 f16 f17 f18 f19 f20 fL_l_met_error cc_l_told P_l_told w_WORDS w_PARTS C0 C1 C2 C3 C4 C5 C6 C7 C8 C9 : Addr} {od0 an0 od1 an1 od2 an2 od3 an3 od4 an4 od5 an5 od6 an6 od7 an7 od8 an8 od9 an9 od10 an10 od11 an11 od12 an12 od13 an13 od14 an14 od15 an15 od16 an16 od17 an17 od18 an18 od19 an19 od20 an20 odL_l_met_error anL_l_met_error wd_WORDS : Option Addr} {sl0 sl1 sl2 sl3 sl4 sl5 sl6 sl7 sl8 sl9 sl10 sl11 sl12 sl13 sl14 sl15 sl16 sl17 sl18 sl19 sl20 slL_l_met_error ws_WORDS : Array (Option Value)} {oc0 kV0 dc0 pm0 cd0 ct0 oc1 kV1 dc1 pm1 cd1 ct1 oc2 kV2 dc2 pm2 cd2 ct2 oc3 kV3 dc3 pm3 cd3 ct3 oc4 kV4 dc4 pm4 cd4 ct4 oc5 kV5 dc5 pm5 cd5 ct5 oc6 kV6 dc6 pm6 cd6 ct6 oc7 kV7 dc7 pm7 cd7 ct7 oc8 kV8 dc8 pm8 cd8 ct8 oc9 kV9 dc9 pm9 cd9 ct9 oc10 kV10 dc10 pm10 cd10 ct10 oc11 kV11 dc11 pm11 cd11 ct11 oc12 kV12 dc12 pm12 cd12 ct12 oc13 kV13 dc13 pm13 cd13 ct13 oc14 kV14 dc14 pm14 cd14 ct14 oc15 kV15 dc15 pm15 cd15 ct15 oc16 kV16 dc16 pm16 cd16 ct16 oc17 kV17 dc17 pm17 cd17 ct17 oc18 kV18 dc18 pm18 cd18 ct18 oc19 kV19 dc19 pm19 cd19 ct19 oc20 kV20 dc20 pm20 cd20 ct20 ocL_l_met_error kVL_l_met_error dcL_l_met_error pmL_l_met_error cdL_l_met_error ctL_l_met_error : Value} {tk_MAX_DEPTH tk_MAX_LETTERS tk_MAX_NAMES wt_WORDS_0 wt_WORDS_1 wt_WORDS_2 wt_WORDS_3 wt_WORDS_4 wt_PARTS_0 wt_PARTS_1 wt_PARTS_2 wt_PARTS_3 wt_PARTS_4 : Tok} {rs6 : List Value} {we_PARTS : Array DictEntry} {wn_WORDS wn_PARTS : Nat}
    (ya_Formula : PySem.W.nsIn K mainGlobals "Formula" = some (some (.ref Y_Formula)))
    (yp_Formula : PySem.W.plainGet K Y_Formula Str.empty = true)
    (yh_Formula : PySem.W.hasDictIn K Y_Formula = true)
    (yo_Formula : PySem.W.plainOver K Y_Formula = true)
    (ys_Formula : PySem.W.findIn K (.ref Y_Formula) "__setattr__" = some (some (.builtin "object.__setattr__")))
    (yc_Formula : PySem.W.findIn K (.ref Y_Formula) "__class__" = some (some (.builtin "object.__class__")))
    (yg_Formula : PySem.W.specialIn K (.builtin "object.__class__") "__get__" = some (some (.builtin "getset_descriptor.__get__")))
    (yt_Formula : PySem.W.takesIn K (.builtin "object.__class__") = some true)
    (ym_Formula : PySem.W.mroIn K Y_Formula (.type "object") = some true)
    (yi_Formula : PySem.W.isClsIn K Y_Formula = true)
    (yy_Formula : PySem.W.typeIn K (.ref Y_Formula) = some (.type "type"))
    (yk_Formula : PySem.W.keepIn K (.ref Y_Formula) = true)
    (yf_Formula_names : PySem.W.findIn K (.ref Y_Formula) "_names" = some none)
    (yf_Formula_tree : PySem.W.findIn K (.ref Y_Formula) "_tree" = some none)
    (yf_Formula_tuples : PySem.W.findIn K (.ref Y_Formula) "_tuples" = some none)
    (a0 : PySem.W.nsIn K mainGlobals "is_plain" = some (some (.ref f0)))
    (l0 : K.lookup f0 = some ⟨oc0, od0, .func (PySem.W.fnOf "is_plain" "is_plain" (defArgs s_is_plain) (defBody s_is_plain) (defScope s_is_plain) .none kV0 dc0 pm0 an0 cd0 ct0), sl0⟩)
    (c0 : PySem.W.codeIn K cd0 "is_plain" = true)
    (k0 : PySem.W.keepIn K (.ref f0) = true)
    (a1 : PySem.W.nsIn K mainGlobals "is_name" = some (some (.ref f1)))
    (l1 : K.lookup f1 = some ⟨oc1, od1, .func (PySem.W.fnOf "is_name" "is_name" (defArgs s_is_name) (defBody s_is_name) (defScope s_is_name) .none kV1 dc1 pm1 an1 cd1 ct1), sl1⟩)
    (c1 : PySem.W.codeIn K cd1 "is_name" = true)
    (k1 : PySem.W.keepIn K (.ref f1) = true)
    (a2 : PySem.W.nsIn K mainGlobals "_tuples_in" = some (some (.ref f2)))
    (l2 : K.lookup f2 = some ⟨oc2, od2, .func (PySem.W.fnOf "_tuples_in" "_tuples_in" (defArgs s_tuples_in) (defBody s_tuples_in) (defScope s_tuples_in) .none kV2 dc2 pm2 an2 cd2 ct2), sl2⟩)
    (c2 : PySem.W.codeIn K cd2 "_tuples_in" = true)
    (k2 : PySem.W.keepIn K (.ref f2) = true)
    (a3 : PySem.W.nsIn K mainGlobals "is_formula_name" = some (some (.ref f3)))
    (l3 : K.lookup f3 = some ⟨oc3, od3, .func (PySem.W.fnOf "is_formula_name" "is_formula_name" (defArgs s_is_formula_name) (defBody s_is_formula_name) (defScope s_is_formula_name) .none kV3 dc3 pm3 an3 cd3 ct3), sl3⟩)
    (c3 : PySem.W.codeIn K cd3 "is_formula_name" = true)
    (k3 : PySem.W.keepIn K (.ref f3) = true)
    (a4 : PySem.W.nsIn K mainGlobals "_is_tree" = some (some (.ref f4)))
    (l4 : K.lookup f4 = some ⟨oc4, od4, .func (PySem.W.fnOf "_is_tree" "_is_tree" (defArgs s_is_tree) (defBody s_is_tree) (defScope s_is_tree) .none kV4 dc4 pm4 an4 cd4 ct4), sl4⟩)
    (c4 : PySem.W.codeIn K cd4 "_is_tree" = true)
    (k4 : PySem.W.keepIn K (.ref f4) = true)
    (a5 : PySem.W.findIn K (.ref Y_Formula) "__init__" = some (some (.ref f5)))
    (l5 : K.lookup f5 = some ⟨oc5, od5, .func (PySem.W.fnOf "__init__" "Formula.__init__" (defArgs s_Formula_init_d) (defBody s_Formula_init_d) (defScope s_Formula_init_d) .none kV5 dc5 pm5 an5 cd5 ct5), sl5⟩)
    (c5 : PySem.W.codeIn K cd5 "Formula.__init__" = true)
    (k5 : PySem.W.keepIn K (.ref f5) = true)
    (is5 : PySem.W.isFn K (.ref f5) = true)
    (mk5 : PySem.W.makesIn K Y_Formula = true)
    (a6 : PySem.W.findIn K (.ref Y_Formula) "tree" = some (some (.ref p6)))
    (pg6 : PySem.W.specialIn K (.ref p6) "__get__" = some (some (.builtin "property.__get__")))
    (pt6 : PySem.W.takesIn K (.ref p6) = some true)
    (pr6 : PySem.W.recIn K p6 "property" = some (.ref f6 :: rs6))
    (l6 : K.lookup f6 = some ⟨oc6, od6, .func (PySem.W.fnOf "tree" "Formula.tree" (defArgs s_Formula_tree) (defBody s_Formula_tree) (defScope s_Formula_tree) .none kV6 dc6 pm6 an6 cd6 ct6), sl6⟩)
    (c6 : PySem.W.codeIn K cd6 "Formula.tree" = true)
    (k6 : PySem.W.keepIn K (.ref f6) = true)
    (a7 : PySem.W.nsIn K mainGlobals "_law_pot" = some (some (.ref f7)))
    (l7 : K.lookup f7 = some ⟨oc7, od7, .func (PySem.W.fnOf "_law_pot" "_law_pot" (defArgs s_l_pot) (defBody s_l_pot) (defScope s_l_pot) .none kV7 dc7 pm7 an7 cd7 ct7), sl7⟩)
    (c7 : PySem.W.codeIn K cd7 "_law_pot" = true)
    (k7 : PySem.W.keepIn K (.ref f7) = true)
    (a8 : PySem.W.nsIn K mainGlobals "_law_bit" = some (some (.ref f8)))
    (l8 : K.lookup f8 = some ⟨oc8, od8, .func (PySem.W.fnOf "_law_bit" "_law_bit" (defArgs s_l_bit) (defBody s_l_bit) (defScope s_l_bit) .none kV8 dc8 pm8 an8 cd8 ct8), sl8⟩)
    (c8 : PySem.W.codeIn K cd8 "_law_bit" = true)
    (k8 : PySem.W.keepIn K (.ref f8) = true)
    (a9 : PySem.W.nsIn K mainGlobals "_law_pick" = some (some (.ref f9)))
    (l9 : K.lookup f9 = some ⟨oc9, od9, .func (PySem.W.fnOf "_law_pick" "_law_pick" (defArgs s_l_pick) (defBody s_l_pick) (defScope s_l_pick) .none kV9 dc9 pm9 an9 cd9 ct9), sl9⟩)
    (c9 : PySem.W.codeIn K cd9 "_law_pick" = true)
    (k9 : PySem.W.keepIn K (.ref f9) = true)
    (a10 : PySem.W.nsIn K mainGlobals "_law_dealt" = some (some (.ref f10)))
    (l10 : K.lookup f10 = some ⟨oc10, od10, .func (PySem.W.fnOf "_law_dealt" "_law_dealt" (defArgs s_l_dealt) (defBody s_l_dealt) (defScope s_l_dealt) .none kV10 dc10 pm10 an10 cd10 ct10), sl10⟩)
    (c10 : PySem.W.codeIn K cd10 "_law_dealt" = true)
    (k10 : PySem.W.keepIn K (.ref f10) = true)
    (a11 : PySem.W.nsIn K mainGlobals "_law_tree" = some (some (.ref f11)))
    (l11 : K.lookup f11 = some ⟨oc11, od11, .func (PySem.W.fnOf "_law_tree" "_law_tree" (defArgs s_l_tree) (defBody s_l_tree) (defScope s_l_tree) .none kV11 dc11 pm11 an11 cd11 ct11), sl11⟩)
    (c11 : PySem.W.codeIn K cd11 "_law_tree" = true)
    (k11 : PySem.W.keepIn K (.ref f11) = true)
    (a12 : PySem.W.nsIn K mainGlobals "_law_words_in" = some (some (.ref f12)))
    (l12 : K.lookup f12 = some ⟨oc12, od12, .func (PySem.W.fnOf "_law_words_in" "_law_words_in" (defArgs s_l_words_in) (defBody s_l_words_in) (defScope s_l_words_in) .none kV12 dc12 pm12 an12 cd12 ct12), sl12⟩)
    (c12 : PySem.W.codeIn K cd12 "_law_words_in" = true)
    (k12 : PySem.W.keepIn K (.ref f12) = true)
    (a13 : PySem.W.nsIn K mainGlobals "_law_is_word" = some (some (.ref f13)))
    (l13 : K.lookup f13 = some ⟨oc13, od13, .func (PySem.W.fnOf "_law_is_word" "_law_is_word" (defArgs s_l_is_word) (defBody s_l_is_word) (defScope s_l_is_word) .none kV13 dc13 pm13 an13 cd13 ct13), sl13⟩)
    (c13 : PySem.W.codeIn K cd13 "_law_is_word" = true)
    (k13 : PySem.W.keepIn K (.ref f13) = true)
    (a14 : PySem.W.nsIn K mainGlobals "_law_is_any_tree" = some (some (.ref f14)))
    (l14 : K.lookup f14 = some ⟨oc14, od14, .func (PySem.W.fnOf "_law_is_any_tree" "_law_is_any_tree" (defArgs s_l_is_any_tree) (defBody s_l_is_any_tree) (defScope s_l_is_any_tree) .none kV14 dc14 pm14 an14 cd14 ct14), sl14⟩)
    (c14 : PySem.W.codeIn K cd14 "_law_is_any_tree" = true)
    (k14 : PySem.W.keepIn K (.ref f14) = true)
    (a15 : PySem.W.nsIn K mainGlobals "_law_is_tree" = some (some (.ref f15)))
    (l15 : K.lookup f15 = some ⟨oc15, od15, .func (PySem.W.fnOf "_law_is_tree" "_law_is_tree" (defArgs s_l_is_tree) (defBody s_l_is_tree) (defScope s_l_is_tree) .none kV15 dc15 pm15 an15 cd15 ct15), sl15⟩)
    (c15 : PySem.W.codeIn K cd15 "_law_is_tree" = true)
    (k15 : PySem.W.keepIn K (.ref f15) = true)
    (a16 : PySem.W.nsIn K mainGlobals "_law_bent" = some (some (.ref f16)))
    (l16 : K.lookup f16 = some ⟨oc16, od16, .func (PySem.W.fnOf "_law_bent" "_law_bent" (defArgs s_l_bent) (defBody s_l_bent) (defScope s_l_bent) .none kV16 dc16 pm16 an16 cd16 ct16), sl16⟩)
    (c16 : PySem.W.codeIn K cd16 "_law_bent" = true)
    (k16 : PySem.W.keepIn K (.ref f16) = true)
    (a17 : PySem.W.nsIn K mainGlobals "_law_wide" = some (some (.ref f17)))
    (l17 : K.lookup f17 = some ⟨oc17, od17, .func (PySem.W.fnOf "_law_wide" "_law_wide" (defArgs s_l_wide) (defBody s_l_wide) (defScope s_l_wide) .none kV17 dc17 pm17 an17 cd17 ct17), sl17⟩)
    (c17 : PySem.W.codeIn K cd17 "_law_wide" = true)
    (k17 : PySem.W.keepIn K (.ref f17) = true)
    (a18 : PySem.W.nsIn K mainGlobals "_law_nested" = some (some (.ref f18)))
    (l18 : K.lookup f18 = some ⟨oc18, od18, .func (PySem.W.fnOf "_law_nested" "_law_nested" (defArgs s_l_nested) (defBody s_l_nested) (defScope s_l_nested) .none kV18 dc18 pm18 an18 cd18 ct18), sl18⟩)
    (c18 : PySem.W.codeIn K cd18 "_law_nested" = true)
    (k18 : PySem.W.keepIn K (.ref f18) = true)
    (a19 : PySem.W.nsIn K mainGlobals "_law_told" = some (some (.ref f19)))
    (l19 : K.lookup f19 = some ⟨oc19, od19, .func (PySem.W.fnOf "_law_told" "_law_told" (defArgs s_l_told) (defBody s_l_told) (defScope s_l_told) .none kV19 dc19 pm19 an19 cd19 ct19), sl19⟩)
    (c19 : PySem.W.codeIn K cd19 "_law_told" = true)
    (k19 : PySem.W.keepIn K (.ref f19) = true)
    (a20 : PySem.W.nsIn K mainGlobals "law" = some (some (.ref f20)))
    (l20 : K.lookup f20 = some ⟨oc20, od20, .func (PySem.W.fnOf "law" "law" (defArgs s_law) (defBody s_law) (defScope s_law) .none kV20 dc20 pm20 an20 cd20 ct20), sl20⟩)
    (c20 : PySem.W.codeIn K cd20 "law" = true)
    (k20 : PySem.W.keepIn K (.ref f20) = true)
    (z_abs : PySem.W.nsIn K mainGlobals "abs" = some (none))
    (z_all : PySem.W.nsIn K mainGlobals "all" = some (none))
    (z_dict : PySem.W.nsIn K mainGlobals "dict" = some (none))
    (z_int : PySem.W.nsIn K mainGlobals "int" = some (none))
    (z_isinstance : PySem.W.nsIn K mainGlobals "isinstance" = some (none))
    (z_len : PySem.W.nsIn K mainGlobals "len" = some (none))
    (z_list : PySem.W.nsIn K mainGlobals "list" = some (none))
    (z_max : PySem.W.nsIn K mainGlobals "max" = some (none))
    (z_min : PySem.W.nsIn K mainGlobals "min" = some (none))
    (z_range : PySem.W.nsIn K mainGlobals "range" = some (none))
    (z_repr : PySem.W.nsIn K mainGlobals "repr" = some (none))
    (z_set : PySem.W.nsIn K mainGlobals "set" = some (none))
    (z_sorted : PySem.W.nsIn K mainGlobals "sorted" = some (none))
    (z_str : PySem.W.nsIn K mainGlobals "str" = some (none))
    (z_tuple : PySem.W.nsIn K mainGlobals "tuple" = some (none))
    (aL_l_met_error : PySem.W.nsIn K mainGlobals "_law_met_error" = some (some (.ref fL_l_met_error)))
    (lL_l_met_error : K.lookup fL_l_met_error = some ⟨ocL_l_met_error, odL_l_met_error, .func (PySem.W.fnOf "_law_met_error" "_law_met_error" (defArgs s_l_met_error) (defBody s_l_met_error) (defScope s_l_met_error) .none kVL_l_met_error dcL_l_met_error pmL_l_met_error anL_l_met_error cdL_l_met_error ctL_l_met_error), slL_l_met_error⟩)
    (cL_l_met_error : PySem.W.codeIn K cdL_l_met_error "_law_met_error" = true)
    (kL_l_met_error : PySem.W.keepIn K (.ref fL_l_met_error) = true)
    (t_l_told : PySem.W.tabIn K "_law_told" = some (cc_l_told, P_l_told))
    (u_l_told : K.lookup P_l_told = none)
    (v_MAX_DEPTH : PySem.W.nsIn K mainGlobals "MAX_DEPTH" = some (some (.int 8 tk_MAX_DEPTH)))
    (v_MAX_LETTERS : PySem.W.nsIn K mainGlobals "MAX_LETTERS" = some (some (.int 8 tk_MAX_LETTERS)))
    (v_MAX_NAMES : PySem.W.nsIn K mainGlobals "MAX_NAMES" = some (some (.int 4 tk_MAX_NAMES)))
    (wa_WORDS : PySem.W.nsIn K mainGlobals "WORDS" = some (some (.ref w_WORDS)))
    (wl_WORDS : K.lookup w_WORDS = some ⟨.type "tuple", wd_WORDS, .seq ([.str "all" wt_WORDS_0, .str "and" wt_WORDS_1, .str "none" wt_WORDS_2, .str "not" wt_WORDS_3, .str "or" wt_WORDS_4] : List Value).toArray wn_WORDS, ws_WORDS⟩)
    (wa_PARTS : PySem.W.nsIn K mainGlobals "_PARTS" = some (some (.ref w_PARTS)))
    (wl_PARTS : K.lookup w_PARTS = some ⟨.type "dict", none, .dict we_PARTS wn_PARTS, #[]⟩)
    (wk_PARTS : PySem.W.KeysLit w.params we_PARTS.toList)
    (ws_PARTS : (w_PARTS == sysModules) = false)
    (wv_PARTS_0 : PySem.W.nsIn K w_PARTS "all" = some (some (.int 1 wt_PARTS_0)))
    (wv_PARTS_1 : PySem.W.nsIn K w_PARTS "none" = some (some (.int 1 wt_PARTS_1)))
    (wv_PARTS_2 : PySem.W.nsIn K w_PARTS "not" = some (some (.int 2 wt_PARTS_2)))
    (wv_PARTS_3 : PySem.W.nsIn K w_PARTS "and" = some (some (.int 3 wt_PARTS_3)))
    (wv_PARTS_4 : PySem.W.nsIn K w_PARTS "or" = some (some (.int 3 wt_PARTS_4)))
    (wn_PARTS_0 : PySem.W.nsIn K w_PARTS "" = some none)
    (wn_PARTS_1 : PySem.W.nsIn K w_PARTS "name" = some none)
    (wn_PARTS_2 : PySem.W.nsIn K w_PARTS "A" = some none)
    (wn_PARTS_3 : PySem.W.nsIn K w_PARTS "ninechars" = some none)
    (wn_PARTS_4 : PySem.W.nsIn K w_PARTS "x" = some none)
    (wn_PARTS_5 : PySem.W.nsIn K w_PARTS "u" = some none)
    (wn_PARTS_6 : PySem.W.nsIn K w_PARTS "q" = some none)
    (wn_PARTS_7 : PySem.W.nsIn K w_PARTS "r" = some none)
    (wn_PARTS_8 : PySem.W.nsIn K w_PARTS "s" = some none)
    (wn_PARTS_9 : PySem.W.nsIn K w_PARTS "t" = some none)
    (wn_PARTS_10 : PySem.W.nsIn K w_PARTS "a" = some none)
    (wn_PARTS_11 : PySem.W.nsIn K w_PARTS "odd" = some none)
    (wn_PARTS_12 : PySem.W.nsIn K w_PARTS "ends" = some none)
    (wn_PARTS_13 : PySem.W.nsIn K w_PARTS "zzzzzzzz" = some none)
    (wn_PARTS_14 : PySem.W.nsIn K w_PARTS "nota" = some none)
    (xa0 : PySem.W.nsIn K mainGlobals "InvalidFormula" = some (some (.ref C0)))
    (xs0 : PySem.W.subIn K (.ref C0) (.type "BaseException") = some true)
    (xt0 : PySem.W.typeIn K (.ref C0) = some (.type "type"))
    (xh0 : PySem.W.hasDictIn K C0 = true)
    (xq0 : PySem.W.excIn K C0 [.type "ValueError", .type "Exception", .type "BaseException", .type "object"] "ValueError.__new__" = true)
    (xk0 : PySem.W.keepIn K (.ref C0) = true)
    (xa1 : PySem.W.nsIn K mainGlobals "InvalidLetters" = some (some (.ref C1)))
    (xs1 : PySem.W.subIn K (.ref C1) (.type "BaseException") = some true)
    (xt1 : PySem.W.typeIn K (.ref C1) = some (.type "type"))
    (xh1 : PySem.W.hasDictIn K C1 = true)
    (xa2 : PySem.W.nsIn K mainGlobals "InvalidName" = some (some (.ref C2)))
    (xs2 : PySem.W.subIn K (.ref C2) (.type "BaseException") = some true)
    (xt2 : PySem.W.typeIn K (.ref C2) = some (.type "type"))
    (xh2 : PySem.W.hasDictIn K C2 = true)
    (xa3 : PySem.W.nsIn K mainGlobals "InvalidNumber" = some (some (.ref C3)))
    (xs3 : PySem.W.subIn K (.ref C3) (.type "BaseException") = some true)
    (xt3 : PySem.W.typeIn K (.ref C3) = some (.type "type"))
    (xh3 : PySem.W.hasDictIn K C3 = true)
    (xa4 : PySem.W.nsIn K mainGlobals "InvalidOperation" = some (some (.ref C4)))
    (xs4 : PySem.W.subIn K (.ref C4) (.type "BaseException") = some true)
    (xt4 : PySem.W.typeIn K (.ref C4) = some (.type "type"))
    (xh4 : PySem.W.hasDictIn K C4 = true)
    (xa5 : PySem.W.nsIn K mainGlobals "InvalidReader" = some (some (.ref C5)))
    (xs5 : PySem.W.subIn K (.ref C5) (.type "BaseException") = some true)
    (xt5 : PySem.W.typeIn K (.ref C5) = some (.type "type"))
    (xh5 : PySem.W.hasDictIn K C5 = true)
    (xa6 : PySem.W.nsIn K mainGlobals "InvalidText" = some (some (.ref C6)))
    (xs6 : PySem.W.subIn K (.ref C6) (.type "BaseException") = some true)
    (xt6 : PySem.W.typeIn K (.ref C6) = some (.type "type"))
    (xh6 : PySem.W.hasDictIn K C6 = true)
    (xa7 : PySem.W.nsIn K mainGlobals "NotLone" = some (some (.ref C7)))
    (xs7 : PySem.W.subIn K (.ref C7) (.type "BaseException") = some true)
    (xt7 : PySem.W.typeIn K (.ref C7) = some (.type "type"))
    (xh7 : PySem.W.hasDictIn K C7 = true)
    (xa8 : PySem.W.nsIn K mainGlobals "TooMany" = some (some (.ref C8)))
    (xs8 : PySem.W.subIn K (.ref C8) (.type "BaseException") = some true)
    (xt8 : PySem.W.typeIn K (.ref C8) = some (.type "type"))
    (xh8 : PySem.W.hasDictIn K C8 = true)
    (xa9 : PySem.W.nsIn K mainGlobals "UnknownName" = some (some (.ref C9)))
    (xs9 : PySem.W.subIn K (.ref C9) (.type "BaseException") = some true)
    (xt9 : PySem.W.typeIn K (.ref C9) = some (.type "type"))
    (xh9 : PySem.W.hasDictIn K C9 = true)
    (xe0_0 : PySem.W.subIn K (.ref C0) (.ref C0) = some true)
    (xe1_0 : PySem.W.subIn K (.ref C0) (.ref C1) = some false)
    (xe2_0 : PySem.W.subIn K (.ref C0) (.ref C2) = some false)
    (xe3_0 : PySem.W.subIn K (.ref C0) (.ref C3) = some false)
    (xe4_0 : PySem.W.subIn K (.ref C0) (.ref C4) = some false)
    (xe5_0 : PySem.W.subIn K (.ref C0) (.ref C5) = some false)
    (xe6_0 : PySem.W.subIn K (.ref C0) (.ref C6) = some false)
    (xe7_0 : PySem.W.subIn K (.ref C0) (.ref C7) = some false)
    (xe8_0 : PySem.W.subIn K (.ref C0) (.ref C8) = some false)
    (xe9_0 : PySem.W.subIn K (.ref C0) (.ref C9) = some false) :
    ∃ (fd : FuncData) (cs : List (Addr × Addr)) (T : List (Addr × Str)), (∀ p ∈ cs, ∃ y ∈ (["_law_told"] : List Str), PySem.W.tabIn K y = some p) ∧ (∀ p ∈ cs, K.lookup p.2 = none) ∧ (∀ t ∈ T, ∃ p ∈ cs, p.2 = t.1) ∧ (∀ (s : Shared) (v : Value), BindsTo s fd ⟨[v], []⟩ [("_law_script", v)]) ∧ ∀ base : Heap, K.In base → base.Ns mainGlobals mg → (∀ p ∈ cs, LamX.TabB base mg p.1 p.2) → FnG PySem.Challenge.pw_loneguess_k42_whole_trees_by_their_rules w K mg base 25 fa fd ["_law_script"] (spD ⟨mg, K, T⟩ g_law) := by
  have e := hfa.symm.trans (PySem.W.mg_of X G a20)
  cases e
  have M_Formula : mg "Formula" = some (.ref Y_Formula) := PySem.W.mg_of X G ya_Formula
  have Cls_Formula : Cls K Y_Formula := ⟨yp_Formula, yh_Formula, yo_Formula, ys_Formula⟩
  have hT_Formula : InsTy ⟨mg, K, [(P_l_told, ("_law_told" : Str) ++ ".<locals>." ++ "<lambda>")]⟩ "Formula" := ⟨Y_Formula, M_Formula, Cls_Formula, yc_Formula, yg_Formula, yt_Formula, ym_Formula⟩
  have hC_Formula : isCls ⟨mg, K, [(P_l_told, ("_law_told" : Str) ++ ".<locals>." ++ "<lambda>")]⟩ "Formula" := ⟨Y_Formula, M_Formula, yi_Formula, yy_Formula⟩
  have hf_names : ∀ cn ∈ (["Formula"] : List Str), AtC ⟨mg, K, [(P_l_told, ("_law_told" : Str) ++ ".<locals>." ++ "<lambda>")]⟩ cn fun C => Cls K C ∧ NoAttr K C "_names" := by
    intro cn hcn
    obtain rfl := List.mem_singleton.mp hcn
    exact ⟨Y_Formula, M_Formula, Cls_Formula, yf_Formula_names⟩
  have hf_tree : ∀ cn ∈ (["Formula"] : List Str), AtC ⟨mg, K, [(P_l_told, ("_law_told" : Str) ++ ".<locals>." ++ "<lambda>")]⟩ cn fun C => Cls K C ∧ NoAttr K C "_tree" := by
    intro cn hcn
    obtain rfl := List.mem_singleton.mp hcn
    exact ⟨Y_Formula, M_Formula, Cls_Formula, yf_Formula_tree⟩
  have hf_tuples : ∀ cn ∈ (["Formula"] : List Str), AtC ⟨mg, K, [(P_l_told, ("_law_told" : Str) ++ ".<locals>." ++ "<lambda>")]⟩ cn fun C => Cls K C ∧ NoAttr K C "_tuples" := by
    intro cn hcn
    obtain rfl := List.mem_singleton.mp hcn
    exact ⟨Y_Formula, M_Formula, Cls_Formula, yf_Formula_tuples⟩
  have v_WORDS : KVal ⟨mg, K, [(P_l_told, ("_law_told" : Str) ++ ".<locals>." ++ "<lambda>")]⟩ "WORDS" (.tup [.str "all", .str "and", .str "none", .str "not", .str "or"]) := kval_txs (ys := ["all", "and", "none", "not", "or"]) (PySem.W.mg_of X G wa_WORDS) wl_WORDS rfl rfl (show 5 ≤ sizeLine by decide) (.cons ⟨_, rfl⟩ (.cons ⟨_, rfl⟩ (.cons ⟨_, rfl⟩ (.cons ⟨_, rfl⟩ (.cons ⟨_, rfl⟩ .nil)))))
  have kt_PARTS : KTab ⟨mg, K, [(P_l_told, ("_law_told" : Str) ++ ".<locals>." ++ "<lambda>")]⟩ w "_PARTS" [("all", some 1), ("none", some 1), ("not", some 2), ("and", some 3), ("or", some 3), ("", none), ("name", none), ("A", none), ("ninechars", none), ("x", none), ("u", none), ("q", none), ("r", none), ("s", none), ("t", none), ("a", none), ("odd", none), ("ends", none), ("zzzzzzzz", none), ("nota", none)] := by
    refine ⟨w_PARTS, PySem.W.mg_of X G wa_PARTS, ⟨we_PARTS, wn_PARTS, ⟨wl_PARTS, wk_PARTS, ws_PARTS⟩⟩, fun p hp => ?_⟩
    simp only [List.mem_cons, List.not_mem_nil, or_false] at hp
    rcases hp with rfl | rfl | rfl | rfl | rfl | rfl | rfl | rfl | rfl | rfl | rfl | rfl | rfl | rfl | rfl | rfl | rfl | rfl | rfl | rfl
    · exact ⟨_, wv_PARTS_0⟩
    · exact ⟨_, wv_PARTS_1⟩
    · exact ⟨_, wv_PARTS_2⟩
    · exact ⟨_, wv_PARTS_3⟩
    · exact ⟨_, wv_PARTS_4⟩
    · exact wn_PARTS_0
    · exact wn_PARTS_1
    · exact wn_PARTS_2
    · exact wn_PARTS_3
    · exact wn_PARTS_4
    · exact wn_PARTS_5
    · exact wn_PARTS_6
    · exact wn_PARTS_7
    · exact wn_PARTS_8
    · exact wn_PARTS_9
    · exact wn_PARTS_10
    · exact wn_PARTS_11
    · exact wn_PARTS_12
    · exact wn_PARTS_13
    · exact wn_PARTS_14
  have x_InvalidFormula : Exc0 K mg "InvalidFormula" := ⟨_, _, _, _, _, F.excBase_ValueError, xq0, PySem.W.mg_of X G xa0, xk0, xs0, xt0⟩
  have e_InvalidFormula : Hand0 K mg "InvalidFormula" is_InvalidFormula := by
    refine ⟨.ref C0, PySem.W.mg_of X G xa0, ⟨fun cn b hb => ?_⟩⟩
    unfold is_InvalidFormula at hb
    split at hb
    · rename_i hn; cases hb; subst hn; exact hd_one (x := "InvalidFormula") (PySem.W.mg_of X G xa0) (PySem.W.exm_ref xs0 xh0 xt0 xe0_0)
    cases hb
  have e_InvalidLetters : Hand0 K mg "InvalidLetters" is_InvalidLetters := by
    refine ⟨.ref C1, PySem.W.mg_of X G xa1, ⟨fun cn b hb => ?_⟩⟩
    unfold is_InvalidLetters at hb
    split at hb
    · rename_i hn; cases hb; subst hn; exact hd_one (x := "InvalidLetters") (PySem.W.mg_of X G xa0) (PySem.W.exm_ref xs1 xh1 xt1 xe1_0)
    cases hb
  have e_InvalidName : Hand0 K mg "InvalidName" is_InvalidName := by
    refine ⟨.ref C2, PySem.W.mg_of X G xa2, ⟨fun cn b hb => ?_⟩⟩
    unfold is_InvalidName at hb
    split at hb
    · rename_i hn; cases hb; subst hn; exact hd_one (x := "InvalidName") (PySem.W.mg_of X G xa0) (PySem.W.exm_ref xs2 xh2 xt2 xe2_0)
    cases hb
  have e_InvalidNumber : Hand0 K mg "InvalidNumber" is_InvalidNumber := by
    refine ⟨.ref C3, PySem.W.mg_of X G xa3, ⟨fun cn b hb => ?_⟩⟩
    unfold is_InvalidNumber at hb
    split at hb
    · rename_i hn; cases hb; subst hn; exact hd_one (x := "InvalidNumber") (PySem.W.mg_of X G xa0) (PySem.W.exm_ref xs3 xh3 xt3 xe3_0)
    cases hb
  have e_InvalidOperation : Hand0 K mg "InvalidOperation" is_InvalidOperation := by
    refine ⟨.ref C4, PySem.W.mg_of X G xa4, ⟨fun cn b hb => ?_⟩⟩
    unfold is_InvalidOperation at hb
    split at hb
    · rename_i hn; cases hb; subst hn; exact hd_one (x := "InvalidOperation") (PySem.W.mg_of X G xa0) (PySem.W.exm_ref xs4 xh4 xt4 xe4_0)
    cases hb
  have e_InvalidReader : Hand0 K mg "InvalidReader" is_InvalidReader := by
    refine ⟨.ref C5, PySem.W.mg_of X G xa5, ⟨fun cn b hb => ?_⟩⟩
    unfold is_InvalidReader at hb
    split at hb
    · rename_i hn; cases hb; subst hn; exact hd_one (x := "InvalidReader") (PySem.W.mg_of X G xa0) (PySem.W.exm_ref xs5 xh5 xt5 xe5_0)
    cases hb
  have e_InvalidText : Hand0 K mg "InvalidText" is_InvalidText := by
    refine ⟨.ref C6, PySem.W.mg_of X G xa6, ⟨fun cn b hb => ?_⟩⟩
    unfold is_InvalidText at hb
    split at hb
    · rename_i hn; cases hb; subst hn; exact hd_one (x := "InvalidText") (PySem.W.mg_of X G xa0) (PySem.W.exm_ref xs6 xh6 xt6 xe6_0)
    cases hb
  have e_NotLone : Hand0 K mg "NotLone" is_NotLone := by
    refine ⟨.ref C7, PySem.W.mg_of X G xa7, ⟨fun cn b hb => ?_⟩⟩
    unfold is_NotLone at hb
    split at hb
    · rename_i hn; cases hb; subst hn; exact hd_one (x := "NotLone") (PySem.W.mg_of X G xa0) (PySem.W.exm_ref xs7 xh7 xt7 xe7_0)
    cases hb
  have e_TooMany : Hand0 K mg "TooMany" is_TooMany := by
    refine ⟨.ref C8, PySem.W.mg_of X G xa8, ⟨fun cn b hb => ?_⟩⟩
    unfold is_TooMany at hb
    split at hb
    · rename_i hn; cases hb; subst hn; exact hd_one (x := "TooMany") (PySem.W.mg_of X G xa0) (PySem.W.exm_ref xs8 xh8 xt8 xe8_0)
    cases hb
  have e_UnknownName : Hand0 K mg "UnknownName" is_UnknownName := by
    refine ⟨.ref C9, PySem.W.mg_of X G xa9, ⟨fun cn b hb => ?_⟩⟩
    unfold is_UnknownName at hb
    split at hb
    · rename_i hn; cases hb; subst hn; exact hd_one (x := "UnknownName") (PySem.W.mg_of X G xa0) (PySem.W.exm_ref xs9 xh9 xt9 xe9_0)
    cases hb
  obtain ⟨cw_InvalidFormula, hw_InvalidFormula, ow_InvalidFormula⟩ := e_InvalidFormula.ex
  obtain ⟨cw_InvalidLetters, hw_InvalidLetters, ow_InvalidLetters⟩ := e_InvalidLetters.ex
  obtain ⟨cw_InvalidName, hw_InvalidName, ow_InvalidName⟩ := e_InvalidName.ex
  obtain ⟨cw_InvalidNumber, hw_InvalidNumber, ow_InvalidNumber⟩ := e_InvalidNumber.ex
  have no_InvalidNumber : ∀ y, is_InvalidNumber y ≠ some true := fun y hy => by
    unfold is_InvalidNumber at hy
    split at hy
    · cases hy
    cases hy
  obtain ⟨cw_InvalidOperation, hw_InvalidOperation, ow_InvalidOperation⟩ := e_InvalidOperation.ex
  obtain ⟨cw_InvalidReader, hw_InvalidReader, ow_InvalidReader⟩ := e_InvalidReader.ex
  obtain ⟨cw_InvalidText, hw_InvalidText, ow_InvalidText⟩ := e_InvalidText.ex
  obtain ⟨cw_NotLone, hw_NotLone, ow_NotLone⟩ := e_NotLone.ex
  have no_NotLone : ∀ y, is_NotLone y ≠ some true := fun y hy => by
    unfold is_NotLone at hy
    split at hy
    · cases hy
    cases hy
  obtain ⟨cw_TooMany, hw_TooMany, ow_TooMany⟩ := e_TooMany.ex
  have no_TooMany : ∀ y, is_TooMany y ≠ some true := fun y hy => by
    unfold is_TooMany at hy
    split at hy
    · cases hy
    cases hy
  obtain ⟨cw_UnknownName, hw_UnknownName, ow_UnknownName⟩ := e_UnknownName.ex
  have no_UnknownName : ∀ y, is_UnknownName y ≠ some true := fun y hy => by
    unfold is_UnknownName at hy
    split at hy
    · cases hy
    cases hy
  have FL_l_met_error := fun_mk (st := s_l_met_error) lL_l_met_error cL_l_met_error kL_l_met_error
  have BL_l_met_error := FL_l_met_error.binds (ps := ["_law_call"]) fun _ _ _ _ _ _ us hl => match us, hl with | [_], _ => rfl
  have LX_l_met_error : LamDefX ⟨mg, K, [(P_l_told, ("_law_told" : Str) ++ ".<locals>." ++ "<lambda>")]⟩ "_law_met_error" "_law_call" hs_l_met_error := ⟨⟨fL_l_met_error, _, s_l_met_error, ["_law_call", "error"], _, _, _, _, _, _, _, PySem.W.mg_of X G aL_l_met_error, kL_l_met_error, FL_l_met_error, rfl, BL_l_met_error, ⟨rfl, rfl, rfl, by decide +kernel, rfl, by decide +kernel, by decide +kernel⟩, rfl, .inl rfl, fun _ => rfl, (.txt rfl hw_InvalidReader (by decide) ⟨ow_InvalidReader.ok⟩ (.txt rfl hw_InvalidText (by decide) ⟨ow_InvalidText.ok⟩ (.txt rfl hw_InvalidFormula (by decide) ⟨ow_InvalidFormula.ok⟩ (.txt rfl hw_InvalidName (by decide) ⟨ow_InvalidName.ok⟩ (.txt rfl hw_InvalidLetters (by decide) ⟨ow_InvalidLetters.ok⟩ (.txt rfl hw_InvalidOperation (by decide) ⟨ow_InvalidOperation.ok⟩ (.nev (i := 1) rfl hw_InvalidNumber (by decide) ⟨ow_InvalidNumber.ok⟩ no_InvalidNumber rfl rfl (.nev (i := 1) rfl hw_UnknownName (by decide) ⟨ow_UnknownName.ok⟩ no_UnknownName rfl rfl (.nev (i := 1) rfl hw_TooMany (by decide) ⟨ow_TooMany.ok⟩ no_TooMany rfl rfl (.nev (i := 1) rfl hw_NotLone (by decide) ⟨ow_NotLone.ok⟩ no_NotLone rfl rfl .nil))))))))))⟩⟩
  have A_l_told : ∀ (base : Heap) (TBs : ∀ p ∈ ([(cc_l_told, P_l_told)] : List (Addr × Addr)), LamX.TabB base mg p.1 p.2), LamAt ⟨mg, K, [(P_l_told, ("_law_told" : Str) ++ ".<locals>." ++ "<lambda>")]⟩ base cc_l_told P_l_told (("_law_told" : Str) ++ ".<locals>." ++ "<lambda>") := fun base TBs => ⟨TBs _ List.mem_cons_self, List.mem_cons_self, fun p hp e => by
    simp only [List.mem_cons, List.not_mem_nil, or_false] at hp
    rcases hp with rfl
    · exact rfl⟩
  have F_is_plain := fun_mk (st := s_is_plain) l0 c0 k0
  have B_is_plain := F_is_plain.binds (ps := ["text"]) fun _ _ _ _ _ _ us hl => match us, hl with | [_], _ => rfl
  have D_is_plain : ∀ (base : Heap) (TBs : ∀ p ∈ ([(cc_l_told, P_l_told)] : List (Addr × Addr)), LamX.TabB base mg p.1 p.2), Cal PySem.Challenge.pw_loneguess_k42_whole_trees_by_their_rules w K mg base 1 "is_plain" (spD ⟨mg, K, [(P_l_told, ("_law_told" : Str) ++ ".<locals>." ++ "<lambda>")]⟩ g_is_plain) := fun base TBs => ⟨_, _, _, ok_is_plain F_is_plain (PySem.W.mg_none_of X G z_all), PySem.W.mg_of X G a0, k0, B_is_plain⟩
  have F_is_name := fun_mk (st := s_is_name) l1 c1 k1
  have B_is_name := F_is_name.binds (ps := ["value"]) fun _ _ _ _ _ _ us hl => match us, hl with | [_], _ => rfl
  have D_is_name : ∀ (base : Heap) (TBs : ∀ p ∈ ([(cc_l_told, P_l_told)] : List (Addr × Addr)), LamX.TabB base mg p.1 p.2), Cal PySem.Challenge.pw_loneguess_k42_whole_trees_by_their_rules w K mg base 2 "is_name" (spD ⟨mg, K, [(P_l_told, ("_law_told" : Str) ++ ".<locals>." ++ "<lambda>")]⟩ g_is_name) := fun base TBs => ⟨_, _, _, ok_is_name F_is_name (PySem.W.mg_none_of X G z_isinstance) (PySem.W.mg_none_of X G z_len) (PySem.W.mg_none_of X G z_str) ⟨_, PySem.W.mg_of X G v_MAX_LETTERS⟩ (D_is_plain base TBs), PySem.W.mg_of X G a1, k1, B_is_name⟩
  have F_tuples_in := fun_mk (st := s_tuples_in) l2 c2 k2
  have B_tuples_in := F_tuples_in.binds (ps := ["tree"]) fun _ _ _ _ _ _ us hl => match us, hl with | [_], _ => rfl
  have D_tuples_in : ∀ (base : Heap) (TBs : ∀ p ∈ ([(cc_l_told, P_l_told)] : List (Addr × Addr)), LamX.TabB base mg p.1 p.2), Cal PySem.Challenge.pw_loneguess_k42_whole_trees_by_their_rules w K mg base 15 "_tuples_in" (spD ⟨mg, K, [(P_l_told, ("_law_told" : Str) ++ ".<locals>." ++ "<lambda>")]⟩ (g_tuples_in 14)) := fun base TBs => ⟨_, _, _, ok_tuples_in F_tuples_in (PySem.W.mg_none_of X G z_list) (PySem.W.mg_none_of X G z_tuple) (PySem.W.mg_of X G a2) k2 B_tuples_in 14, PySem.W.mg_of X G a2, k2, B_tuples_in⟩
  have F_is_formula_name := fun_mk (st := s_is_formula_name) l3 c3 k3
  have B_is_formula_name := F_is_formula_name.binds (ps := ["value"]) fun _ _ _ _ _ _ us hl => match us, hl with | [_], _ => rfl
  have D_is_formula_name : ∀ (base : Heap) (TBs : ∀ p ∈ ([(cc_l_told, P_l_told)] : List (Addr × Addr)), LamX.TabB base mg p.1 p.2), Cal PySem.Challenge.pw_loneguess_k42_whole_trees_by_their_rules w K mg base 3 "is_formula_name" (spD ⟨mg, K, [(P_l_told, ("_law_told" : Str) ++ ".<locals>." ++ "<lambda>")]⟩ g_is_formula_name) := fun base TBs => ⟨_, _, _, ok_is_formula_name F_is_formula_name (D_is_name base TBs) v_WORDS, PySem.W.mg_of X G a3, k3, B_is_formula_name⟩
  have F_is_tree := fun_mk (st := s_is_tree) l4 c4 k4
  have B_is_tree := F_is_tree.binds (ps := ["value", "depth"]) fun _ _ _ _ _ _ us hl => match us, hl with | [_, _], _ => rfl
  have D_is_tree : ∀ (base : Heap) (TBs : ∀ p ∈ ([(cc_l_told, P_l_told)] : List (Addr × Addr)), LamX.TabB base mg p.1 p.2), Cal PySem.Challenge.pw_loneguess_k42_whole_trees_by_their_rules w K mg base 18 "_is_tree" (spD ⟨mg, K, [(P_l_told, ("_law_told" : Str) ++ ".<locals>." ++ "<lambda>")]⟩ (g_is_tree 14)) := fun base TBs => ⟨_, _, _, ok_is_tree F_is_tree (PySem.W.mg_none_of X G z_all) (PySem.W.mg_none_of X G z_isinstance) (PySem.W.mg_none_of X G z_len) (PySem.W.mg_none_of X G z_str) (PySem.W.mg_none_of X G z_tuple) (D_is_formula_name base TBs) kt_PARTS (PySem.W.mg_of X G a4) k4 B_is_tree 14, PySem.W.mg_of X G a4, k4, B_is_tree⟩
  have F_Formula_init_d := fun_mk (st := s_Formula_init_d) l5 c5 k5
  have B_Formula_init_d := F_Formula_init_d.binds (ps := ["self", "tree"]) fun _ _ _ _ _ _ us hl => match us, hl with | [_, _], _ => rfl
  have D_Formula_init_d : ∀ (base : Heap) (TBs : ∀ p ∈ ([(cc_l_told, P_l_told)] : List (Addr × Addr)), LamX.TabB base mg p.1 p.2), CalI PySem.Challenge.pw_loneguess_k42_whole_trees_by_their_rules w ⟨mg, K, [(P_l_told, ("_law_told" : Str) ++ ".<locals>." ++ "<lambda>")]⟩ base 19 "Formula" g_Formula_init_d := fun base TBs => ⟨⟨_, _, _, ⟨Y_Formula, M_Formula, ⟨mk5, a5, is5, yk_Formula⟩⟩, ok_Formula_init_d F_Formula_init_d (PySem.W.mg_none_of X G z_len) (PySem.W.mg_none_of X G z_list) (PySem.W.mg_none_of X G z_sorted) (PySem.W.mg_none_of X G z_tuple) ⟨_, PySem.W.mg_of X G v_MAX_DEPTH⟩ ⟨_, PySem.W.mg_of X G v_MAX_NAMES⟩ (D_is_tree base TBs) (D_tuples_in base TBs) x_InvalidFormula hf_names hf_tree hf_tuples, B_Formula_init_d⟩⟩
  have F_Formula_tree := fun_mk (st := s_Formula_tree) l6 c6 k6
  have B_Formula_tree := F_Formula_tree.binds (ps := ["self"]) fun _ _ _ _ _ _ us hl => match us, hl with | [_], _ => rfl
  have D_Formula_tree : ∀ (base : Heap) (TBs : ∀ p ∈ ([(cc_l_told, P_l_told)] : List (Addr × Addr)), LamX.TabB base mg p.1 p.2), CalP PySem.Challenge.pw_loneguess_k42_whole_trees_by_their_rules w ⟨mg, K, [(P_l_told, ("_law_told" : Str) ++ ".<locals>." ++ "<lambda>")]⟩ base 1 "Formula" "tree" g_Formula_tree := fun base TBs => ⟨⟨_, _, _, ⟨Y_Formula, M_Formula, Cls_Formula, p6, ⟨a6, pg6, pt6, ⟨_, pr6⟩⟩⟩, ok_Formula_tree F_Formula_tree hf_tree, B_Formula_tree⟩⟩
  have F_l_pot := fun_mk (st := s_l_pot) l7 c7 k7
  have B_l_pot := F_l_pot.binds (ps := ["_law_script", "_law_at"]) fun _ _ _ _ _ _ us hl => match us, hl with | [_, _], _ => rfl
  have D_l_pot : ∀ (base : Heap) (TBs : ∀ p ∈ ([(cc_l_told, P_l_told)] : List (Addr × Addr)), LamX.TabB base mg p.1 p.2), Cal PySem.Challenge.pw_loneguess_k42_whole_trees_by_their_rules w K mg base 1 "_law_pot" (spF ⟨mg, K, [(P_l_told, ("_law_told" : Str) ++ ".<locals>." ++ "<lambda>")]⟩ g_l_pot) := fun base TBs => ⟨_, _, _, ok_l_pot F_l_pot (PySem.W.mg_none_of X G z_abs) (PySem.W.mg_none_of X G z_int) (PySem.W.mg_none_of X G z_len) (PySem.W.mg_none_of X G z_max), PySem.W.mg_of X G a7, k7, B_l_pot⟩
  have F_l_bit := fun_mk (st := s_l_bit) l8 c8 k8
  have B_l_bit := F_l_bit.binds (ps := ["_law_pot_here", "_law_much"]) fun _ _ _ _ _ _ us hl => match us, hl with | [_, _], _ => rfl
  have D_l_bit : ∀ (base : Heap) (TBs : ∀ p ∈ ([(cc_l_told, P_l_told)] : List (Addr × Addr)), LamX.TabB base mg p.1 p.2), Cal PySem.Challenge.pw_loneguess_k42_whole_trees_by_their_rules w K mg base 1 "_law_bit" (spD ⟨mg, K, [(P_l_told, ("_law_told" : Str) ++ ".<locals>." ++ "<lambda>")]⟩ g_l_bit) := fun base TBs => ⟨_, _, _, ok_l_bit F_l_bit (PySem.W.mg_none_of X G z_int), PySem.W.mg_of X G a8, k8, B_l_bit⟩
  have F_l_pick := fun_mk (st := s_l_pick) l9 c9 k9
  have B_l_pick := F_l_pick.binds (ps := ["_law_pot_here", "_law_items"]) fun _ _ _ _ _ _ us hl => match us, hl with | [_, _], _ => rfl
  have D_l_pick : ∀ (base : Heap) (TBs : ∀ p ∈ ([(cc_l_told, P_l_told)] : List (Addr × Addr)), LamX.TabB base mg p.1 p.2), Cal PySem.Challenge.pw_loneguess_k42_whole_trees_by_their_rules w K mg base 2 "_law_pick" (spD ⟨mg, K, [(P_l_told, ("_law_told" : Str) ++ ".<locals>." ++ "<lambda>")]⟩ g_l_pick) := fun base TBs => ⟨_, _, _, ok_l_pick F_l_pick (PySem.W.mg_none_of X G z_len) (D_l_bit base TBs), PySem.W.mg_of X G a9, k9, B_l_pick⟩
  have F_l_dealt := fun_mk (st := s_l_dealt) l10 c10 k10
  have B_l_dealt := F_l_dealt.binds (ps := ["_law_pot_here", "_law_items"]) fun _ _ _ _ _ _ us hl => match us, hl with | [_, _], _ => rfl
  have D_l_dealt : ∀ (base : Heap) (TBs : ∀ p ∈ ([(cc_l_told, P_l_told)] : List (Addr × Addr)), LamX.TabB base mg p.1 p.2), Cal PySem.Challenge.pw_loneguess_k42_whole_trees_by_their_rules w K mg base 2 "_law_dealt" (spD ⟨mg, K, [(P_l_told, ("_law_told" : Str) ++ ".<locals>." ++ "<lambda>")]⟩ g_l_dealt) := fun base TBs => ⟨_, _, _, ok_l_dealt F_l_dealt (PySem.W.mg_none_of X G z_len) (PySem.W.mg_none_of X G z_list) (PySem.W.mg_none_of X G z_range) (D_l_bit base TBs), PySem.W.mg_of X G a10, k10, B_l_dealt⟩
  have F_l_tree := fun_mk (st := s_l_tree) l11 c11 k11
  have B_l_tree := F_l_tree.binds (ps := ["_law_pot_here", "_law_words", "_law_deep"]) fun _ _ _ _ _ _ us hl => match us, hl with | [_, _, _], _ => rfl
  have D_l_tree : ∀ (base : Heap) (TBs : ∀ p ∈ ([(cc_l_told, P_l_told)] : List (Addr × Addr)), LamX.TabB base mg p.1 p.2), Cal PySem.Challenge.pw_loneguess_k42_whole_trees_by_their_rules w K mg base 17 "_law_tree" (spD ⟨mg, K, [(P_l_told, ("_law_told" : Str) ++ ".<locals>." ++ "<lambda>")]⟩ (g_l_tree 14)) := fun base TBs => ⟨_, _, _, ok_l_tree F_l_tree (D_l_bit base TBs) (D_l_pick base TBs) (PySem.W.mg_of X G a11) k11 B_l_tree 14, PySem.W.mg_of X G a11, k11, B_l_tree⟩
  have F_l_words_in := fun_mk (st := s_l_words_in) l12 c12 k12
  have B_l_words_in := F_l_words_in.binds (ps := ["_law_tree_here"]) fun _ _ _ _ _ _ us hl => match us, hl with | [_], _ => rfl
  have D_l_words_in : ∀ (base : Heap) (TBs : ∀ p ∈ ([(cc_l_told, P_l_told)] : List (Addr × Addr)), LamX.TabB base mg p.1 p.2), Cal PySem.Challenge.pw_loneguess_k42_whole_trees_by_their_rules w K mg base 15 "_law_words_in" (spD ⟨mg, K, [(P_l_told, ("_law_told" : Str) ++ ".<locals>." ++ "<lambda>")]⟩ (g_l_words_in 14)) := fun base TBs => ⟨_, _, _, ok_l_words_in F_l_words_in (PySem.W.mg_none_of X G z_list) (PySem.W.mg_none_of X G z_set) (PySem.W.mg_none_of X G z_sorted) (PySem.W.mg_none_of X G z_tuple) (PySem.W.mg_of X G a12) k12 B_l_words_in 14, PySem.W.mg_of X G a12, k12, B_l_words_in⟩
  have F_l_is_word := fun_mk (st := s_l_is_word) l13 c13 k13
  have B_l_is_word := F_l_is_word.binds (ps := ["_law_value"]) fun _ _ _ _ _ _ us hl => match us, hl with | [_], _ => rfl
  have D_l_is_word : ∀ (base : Heap) (TBs : ∀ p ∈ ([(cc_l_told, P_l_told)] : List (Addr × Addr)), LamX.TabB base mg p.1 p.2), Cal PySem.Challenge.pw_loneguess_k42_whole_trees_by_their_rules w K mg base 1 "_law_is_word" (spD ⟨mg, K, [(P_l_told, ("_law_told" : Str) ++ ".<locals>." ++ "<lambda>")]⟩ g_l_is_word) := fun base TBs => ⟨_, _, _, ok_l_is_word F_l_is_word (PySem.W.mg_none_of X G z_isinstance) (PySem.W.mg_none_of X G z_len) (PySem.W.mg_none_of X G z_str), PySem.W.mg_of X G a13, k13, B_l_is_word⟩
  have F_l_is_any_tree := fun_mk (st := s_l_is_any_tree) l14 c14 k14
  have B_l_is_any_tree := F_l_is_any_tree.binds (ps := ["_law_value", "_law_deep"]) fun _ _ _ _ _ _ us hl => match us, hl with | [_, _], _ => rfl
  have D_l_is_any_tree : ∀ (base : Heap) (TBs : ∀ p ∈ ([(cc_l_told, P_l_told)] : List (Addr × Addr)), LamX.TabB base mg p.1 p.2), Cal PySem.Challenge.pw_loneguess_k42_whole_trees_by_their_rules w K mg base 16 "_law_is_any_tree" (spD ⟨mg, K, [(P_l_told, ("_law_told" : Str) ++ ".<locals>." ++ "<lambda>")]⟩ (g_l_is_any_tree 14)) := fun base TBs => ⟨_, _, _, ok_l_is_any_tree F_l_is_any_tree (PySem.W.mg_none_of X G z_dict) (PySem.W.mg_none_of X G z_isinstance) (PySem.W.mg_none_of X G z_len) (PySem.W.mg_none_of X G z_str) (PySem.W.mg_none_of X G z_tuple) (D_l_is_word base TBs) (PySem.W.mg_of X G a14) k14 B_l_is_any_tree 14, PySem.W.mg_of X G a14, k14, B_l_is_any_tree⟩
  have F_l_is_tree := fun_mk (st := s_l_is_tree) l15 c15 k15
  have B_l_is_tree := F_l_is_tree.binds (ps := ["_law_value"]) fun _ _ _ _ _ _ us hl => match us, hl with | [_], _ => rfl
  have D_l_is_tree : ∀ (base : Heap) (TBs : ∀ p ∈ ([(cc_l_told, P_l_told)] : List (Addr × Addr)), LamX.TabB base mg p.1 p.2), Cal PySem.Challenge.pw_loneguess_k42_whole_trees_by_their_rules w K mg base 17 "_law_is_tree" (spD ⟨mg, K, [(P_l_told, ("_law_told" : Str) ++ ".<locals>." ++ "<lambda>")]⟩ g_l_is_tree) := fun base TBs => ⟨_, _, _, ok_l_is_tree F_l_is_tree (PySem.W.mg_none_of X G z_len) (D_l_is_any_tree base TBs) (D_l_words_in base TBs), PySem.W.mg_of X G a15, k15, B_l_is_tree⟩
  have F_l_bent := fun_mk (st := s_l_bent) l16 c16 k16
  have B_l_bent := F_l_bent.binds (ps := ["_law_pot_here", "_law_told_here"]) fun _ _ _ _ _ _ us hl => match us, hl with | [_, _], _ => rfl
  have D_l_bent : ∀ (base : Heap) (TBs : ∀ p ∈ ([(cc_l_told, P_l_told)] : List (Addr × Addr)), LamX.TabB base mg p.1 p.2), Cal PySem.Challenge.pw_loneguess_k42_whole_trees_by_their_rules w K mg base 17 "_law_bent" (spD ⟨mg, K, [(P_l_told, ("_law_told" : Str) ++ ".<locals>." ++ "<lambda>")]⟩ (g_l_bent 14)) := fun base TBs => ⟨_, _, _, ok_l_bent F_l_bent (PySem.W.mg_none_of X G z_isinstance) (PySem.W.mg_none_of X G z_len) (PySem.W.mg_none_of X G z_list) (PySem.W.mg_none_of X G z_tuple) (D_l_bit base TBs) (D_l_pick base TBs) (PySem.W.mg_of X G a16) k16 B_l_bent 14, PySem.W.mg_of X G a16, k16, B_l_bent⟩
  have F_l_wide := fun_mk (st := s_l_wide) l17 c17 k17
  have B_l_wide := F_l_wide.binds (ps := ["_law_pot_here", "_law_words"]) fun _ _ _ _ _ _ us hl => match us, hl with | [_, _], _ => rfl
  have D_l_wide : ∀ (base : Heap) (TBs : ∀ p ∈ ([(cc_l_told, P_l_told)] : List (Addr × Addr)), LamX.TabB base mg p.1 p.2), Cal PySem.Challenge.pw_loneguess_k42_whole_trees_by_their_rules w K mg base 18 "_law_wide" (spD ⟨mg, K, [(P_l_told, ("_law_told" : Str) ++ ".<locals>." ++ "<lambda>")]⟩ g_l_wide) := fun base TBs => ⟨_, _, _, ok_l_wide F_l_wide (PySem.W.mg_none_of X G z_range) (D_l_bit base TBs) (D_l_pick base TBs) (D_l_tree base TBs), PySem.W.mg_of X G a17, k17, B_l_wide⟩
  have F_l_nested := fun_mk (st := s_l_nested) l18 c18 k18
  have B_l_nested := F_l_nested.binds (ps := ["_law_value"]) fun _ _ _ _ _ _ us hl => match us, hl with | [_], _ => rfl
  have D_l_nested : ∀ (base : Heap) (TBs : ∀ p ∈ ([(cc_l_told, P_l_told)] : List (Addr × Addr)), LamX.TabB base mg p.1 p.2), Cal PySem.Challenge.pw_loneguess_k42_whole_trees_by_their_rules w K mg base 15 "_law_nested" (spD ⟨mg, K, [(P_l_told, ("_law_told" : Str) ++ ".<locals>." ++ "<lambda>")]⟩ (g_l_nested 14)) := fun base TBs => ⟨_, _, _, ok_l_nested F_l_nested (PySem.W.mg_none_of X G z_dict) (PySem.W.mg_none_of X G z_isinstance) (PySem.W.mg_none_of X G z_list) (PySem.W.mg_none_of X G z_max) (PySem.W.mg_none_of X G z_tuple) (PySem.W.mg_of X G a18) k18 B_l_nested 14, PySem.W.mg_of X G a18, k18, B_l_nested⟩
  have F_l_told := fun_mk (st := s_l_told) l19 c19 k19
  have B_l_told := F_l_told.binds (ps := ["_law_value"]) fun _ _ _ _ _ _ us hl => match us, hl with | [_], _ => rfl
  have D_l_told : ∀ (base : Heap) (TBs : ∀ p ∈ ([(cc_l_told, P_l_told)] : List (Addr × Addr)), LamX.TabB base mg p.1 p.2), Cal PySem.Challenge.pw_loneguess_k42_whole_trees_by_their_rules w K mg base 24 "_law_told" (spD ⟨mg, K, [(P_l_told, ("_law_told" : Str) ++ ".<locals>." ++ "<lambda>")]⟩ g_l_told) := fun base TBs => ⟨_, _, _, ok_l_told F_l_told (PySem.W.mg_none_of X G z_isinstance) (PySem.W.mg_none_of X G z_repr) hC_Formula hT_Formula (A_l_told base TBs) (code_at a19 l19 t_l_told) LX_l_met_error (D_Formula_init_d base TBs) (D_Formula_tree base TBs), PySem.W.mg_of X G a19, k19, B_l_told⟩
  have F_law := fun_mk (st := s_law) l20 c20 k20
  have B_law := F_law.binds (ps := ["_law_script"]) fun _ _ _ _ _ _ us hl => match us, hl with | [_], _ => rfl
  exact ⟨_, [(cc_l_told, P_l_told)], [(P_l_told, ("_law_told" : Str) ++ ".<locals>." ++ "<lambda>")], fun p hp => (by simp only [List.mem_cons, List.not_mem_nil, or_false] at hp; rcases hp with rfl; all_goals first | exact ⟨_, List.mem_cons_self, t_l_told⟩), fun p hp => (by simp only [List.mem_cons, List.not_mem_nil, or_false] at hp; rcases hp with rfl; all_goals first | exact u_l_told), fun p hp => (by simp only [List.mem_cons, List.not_mem_nil, or_false] at hp; rcases hp with rfl; all_goals first | exact ⟨_, List.mem_cons_self, rfl⟩), fun s v => .of_eq rfl, fun base _ _ TBs => ok_law F_law (PySem.W.mg_none_of X G z_len) (PySem.W.mg_none_of X G z_max) (PySem.W.mg_none_of X G z_min) (PySem.W.mg_none_of X G z_range) (PySem.W.mg_none_of X G z_repr) (PySem.W.mg_none_of X G z_sorted) (PySem.W.mg_none_of X G z_tuple) (D_l_bent base TBs) (D_l_bit base TBs) (D_l_dealt base TBs) (D_l_is_tree base TBs) (D_l_nested base TBs) (D_l_pot base TBs) (D_l_told base TBs) (D_l_wide base TBs)⟩
end
end KX
open PySem PySem.W PyProof.Rows in
set_option maxRecDepth 100000 in
set_option maxHeartbeats 0 in
theorem PySem.Challenge.cw_loneguess_k42_whole_trees_by_their_rules_holds : PySem.Challenge.rw_loneguess_k42_whole_trees_by_their_rules.Holds := by
  w_on; o_law; k_head; (case hw => w_witness2)
  k_fill
  refine DL.walkGA (ys := ["_law_told"]) (by decide +kernel) (l := PySem.Challenge.rw_loneguess_k42_whole_trees_by_their_rules) (n := 63) (k := 25) (x := "_law_script") (mf := KX.g_law) rfl (by decide) rfl ⟨rfl, by decide, by decide⟩ (fun w h Y => PySem.W.km_in_of Y) ?F ?Hm
  case F =>
    intro w mg fa h kx G hmg
    refine' KX.all_mk kx G hmg ?ya_Formula ?yp_Formula ?yh_Formula ?yo_Formula ?ys_Formula ?yc_Formula ?yg_Formula ?yt_Formula ?ym_Formula ?yi_Formula ?yy_Formula ?yk_Formula ?yf_Formula_names ?yf_Formula_tree ?yf_Formula_tuples ?a0 ?l0 ?c0 ?k0 ?a1 ?l1 ?c1 ?k1 ?a2 ?l2 ?c2 ?k2 ?a3 ?l3 ?c3 ?k3 ?a4 ?l4 ?c4 ?k4 ?a5 ?l5 ?c5 ?k5 ?is5 ?mk5 ?a6 ?pg6 ?pt6 ?pr6 ?l6 ?c6 ?k6 ?a7 ?l7 ?c7 ?k7 ?a8 ?l8 ?c8 ?k8 ?a9 ?l9 ?c9 ?k9 ?a10 ?l10 ?c10 ?k10 ?a11 ?l11 ?c11 ?k11 ?a12 ?l12 ?c12 ?k12 ?a13 ?l13 ?c13 ?k13 ?a14 ?l14 ?c14 ?k14 ?a15 ?l15 ?c15 ?k15 ?a16 ?l16 ?c16 ?k16 ?a17 ?l17 ?c17 ?k17 ?a18 ?l18 ?c18 ?k18 ?a19 ?l19 ?c19 ?k19 ?a20 ?l20 ?c20 ?k20 ?z_abs ?z_all ?z_dict ?z_int ?z_isinstance ?z_len ?z_list ?z_max ?z_min ?z_range ?z_repr ?z_set ?z_sorted ?z_str ?z_tuple ?aL_l_met_error ?lL_l_met_error ?cL_l_met_error ?kL_l_met_error ?t_l_told ?u_l_told ?v_MAX_DEPTH ?v_MAX_LETTERS ?v_MAX_NAMES ?wa_WORDS ?wl_WORDS ?wa_PARTS ?wl_PARTS ?wk_PARTS ?ws_PARTS ?wv_PARTS_0 ?wv_PARTS_1 ?wv_PARTS_2 ?wv_PARTS_3 ?wv_PARTS_4 ?wn_PARTS_0 ?wn_PARTS_1 ?wn_PARTS_2 ?wn_PARTS_3 ?wn_PARTS_4 ?wn_PARTS_5 ?wn_PARTS_6 ?wn_PARTS_7 ?wn_PARTS_8 ?wn_PARTS_9 ?wn_PARTS_10 ?wn_PARTS_11 ?wn_PARTS_12 ?wn_PARTS_13 ?wn_PARTS_14 ?xa0 ?xs0 ?xt0 ?xh0 ?xq0 ?xk0 ?xa1 ?xs1 ?xt1 ?xh1 ?xa2 ?xs2 ?xt2 ?xh2 ?xa3 ?xs3 ?xt3 ?xh3 ?xa4 ?xs4 ?xt4 ?xh4 ?xa5 ?xs5 ?xt5 ?xh5 ?xa6 ?xs6 ?xt6 ?xh6 ?xa7 ?xs7 ?xt7 ?xh7 ?xa8 ?xs8 ?xt8 ?xh8 ?xa9 ?xs9 ?xt9 ?xh9 ?xe0_0 ?xe1_0 ?xe2_0 ?xe3_0 ?xe4_0 ?xe5_0 ?xe6_0 ?xe7_0 ?xe8_0 ?xe9_0
    (case ya_Formula => k_is)
    (case yp_Formula => k_is)
    (case yh_Formula => k_is)
    (case yo_Formula => k_is)
    (case ys_Formula => k_is)
    (case yc_Formula => k_is)
    (case yg_Formula => k_is)
    (case yt_Formula => k_is)
    (case ym_Formula => k_is)
    (case yi_Formula => k_is)
    (case yy_Formula => k_is)
    (case yk_Formula => k_is)
    (case yf_Formula_names => k_is)
    (case yf_Formula_tree => k_is)
    (case yf_Formula_tuples => k_is)
    (case a0 => k_is)
    (case l0 => k_is)
    (case c0 => k_is)
    (case k0 => k_is)
    (case a1 => k_is)
    (case l1 => k_is)
    (case c1 => k_is)
    (case k1 => k_is)
    (case a2 => k_is)
    (case l2 => k_is)
    (case c2 => k_is)
    (case k2 => k_is)
    (case a3 => k_is)
    (case l3 => k_is)
    (case c3 => k_is)
    (case k3 => k_is)
    (case a4 => k_is)
    (case l4 => k_is)
    (case c4 => k_is)
    (case k4 => k_is)
    (case a5 => k_is)
    (case l5 => k_is)
    (case c5 => k_is)
    (case k5 => k_is)
    (case is5 => k_is)
    (case mk5 => k_is)
    (case a6 => k_is)
    (case pg6 => k_is)
    (case pt6 => k_is)
    (case pr6 => k_is)
    (case l6 => k_is)
    (case c6 => k_is)
    (case k6 => k_is)
    (case a7 => k_is)
    (case l7 => k_is)
    (case c7 => k_is)
    (case k7 => k_is)
    (case a8 => k_is)
    (case l8 => k_is)
    (case c8 => k_is)
    (case k8 => k_is)
    (case a9 => k_is)
    (case l9 => k_is)
    (case c9 => k_is)
    (case k9 => k_is)
    (case a10 => k_is)
    (case l10 => k_is)
    (case c10 => k_is)
    (case k10 => k_is)
    (case a11 => k_is)
    (case l11 => k_is)
    (case c11 => k_is)
    (case k11 => k_is)
    (case a12 => k_is)
    (case l12 => k_is)
    (case c12 => k_is)
    (case k12 => k_is)
    (case a13 => k_is)
    (case l13 => k_is)
    (case c13 => k_is)
    (case k13 => k_is)
    (case a14 => k_is)
    (case l14 => k_is)
    (case c14 => k_is)
    (case k14 => k_is)
    (case a15 => k_is)
    (case l15 => k_is)
    (case c15 => k_is)
    (case k15 => k_is)
    (case a16 => k_is)
    (case l16 => k_is)
    (case c16 => k_is)
    (case k16 => k_is)
    (case a17 => k_is)
    (case l17 => k_is)
    (case c17 => k_is)
    (case k17 => k_is)
    (case a18 => k_is)
    (case l18 => k_is)
    (case c18 => k_is)
    (case k18 => k_is)
    (case a19 => k_is)
    (case l19 => k_is)
    (case c19 => k_is)
    (case k19 => k_is)
    (case a20 => k_is)
    (case l20 => k_is)
    (case c20 => k_is)
    (case k20 => k_is)
    (case z_abs => k_is)
    (case z_all => k_is)
    (case z_dict => k_is)
    (case z_int => k_is)
    (case z_isinstance => k_is)
    (case z_len => k_is)
    (case z_list => k_is)
    (case z_max => k_is)
    (case z_min => k_is)
    (case z_range => k_is)
    (case z_repr => k_is)
    (case z_set => k_is)
    (case z_sorted => k_is)
    (case z_str => k_is)
    (case z_tuple => k_is)
    (case aL_l_met_error => k_is)
    (case lL_l_met_error => k_is)
    (case cL_l_met_error => k_is)
    (case kL_l_met_error => k_is)
    (case t_l_told => refine' DL.tab_eq ?tba ?tbl ?tbc ?tbd ?tbp; (case tba => k_is); (case tbl => k_is); (case tbc => exact rfl); (case tbd => k_is); (case tbp => exact rfl))
    (case u_l_told => kernel_rfl)
    (case v_MAX_DEPTH => k_is)
    (case v_MAX_LETTERS => k_is)
    (case v_MAX_NAMES => k_is)
    (case wa_WORDS => k_is)
    (case wl_WORDS => k_is)
    (case wa_PARTS => k_is)
    (case wl_PARTS => k_is)
    (case wk_PARTS => exact He.keysLit_of (ks := ["all", "none", "not", "and", "or"]) rfl)
    (case ws_PARTS => first | rfl | decide)
    (case wv_PARTS_0 => k_is)
    (case wv_PARTS_1 => k_is)
    (case wv_PARTS_2 => k_is)
    (case wv_PARTS_3 => k_is)
    (case wv_PARTS_4 => k_is)
    (case wn_PARTS_0 => k_is)
    (case wn_PARTS_1 => k_is)
    (case wn_PARTS_2 => k_is)
    (case wn_PARTS_3 => k_is)
    (case wn_PARTS_4 => k_is)
    (case wn_PARTS_5 => k_is)
    (case wn_PARTS_6 => k_is)
    (case wn_PARTS_7 => k_is)
    (case wn_PARTS_8 => k_is)
    (case wn_PARTS_9 => k_is)
    (case wn_PARTS_10 => k_is)
    (case wn_PARTS_11 => k_is)
    (case wn_PARTS_12 => k_is)
    (case wn_PARTS_13 => k_is)
    (case wn_PARTS_14 => k_is)
    (case xa0 => k_is)
    (case xs0 => k_is)
    (case xt0 => k_is)
    (case xh0 => k_is)
    (case xq0 => k_exc)
    (case xk0 => k_is)
    (case xa1 => k_is)
    (case xs1 => k_is)
    (case xt1 => k_is)
    (case xh1 => k_is)
    (case xa2 => k_is)
    (case xs2 => k_is)
    (case xt2 => k_is)
    (case xh2 => k_is)
    (case xa3 => k_is)
    (case xs3 => k_is)
    (case xt3 => k_is)
    (case xh3 => k_is)
    (case xa4 => k_is)
    (case xs4 => k_is)
    (case xt4 => k_is)
    (case xh4 => k_is)
    (case xa5 => k_is)
    (case xs5 => k_is)
    (case xt5 => k_is)
    (case xh5 => k_is)
    (case xa6 => k_is)
    (case xs6 => k_is)
    (case xt6 => k_is)
    (case xh6 => k_is)
    (case xa7 => k_is)
    (case xs7 => k_is)
    (case xt7 => k_is)
    (case xh7 => k_is)
    (case xa8 => k_is)
    (case xs8 => k_is)
    (case xt8 => k_is)
    (case xh8 => k_is)
    (case xa9 => k_is)
    (case xs9 => k_is)
    (case xt9 => k_is)
    (case xh9 => k_is)
    (case xe0_0 => k_is)
    (case xe1_0 => k_is)
    (case xe2_0 => k_is)
    (case xe3_0 => k_is)
    (case xe4_0 => k_is)
    (case xe5_0 => k_is)
    (case xe6_0 => k_is)
    (case xe7_0 => k_is)
    (case xe8_0 => k_is)
    (case xe9_0 => k_is)
  case Hm => exact fun ns h1 h2 => KX.math ns h1 h2
